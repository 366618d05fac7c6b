import PyProof.Rows.All
import Wide.All
import OpenK.AllK
import Wide.FinOn
import Lean
import PyProof.EqAt
import PyProof.EqKinds
import PyProof.TupleCall
import PySem.Challenge.RW_shareparley_k20_whole_texts
import KE.IntBitsLaws
import OpenK.KEqL
import KE.LcSums
import KE.KTupSum
import PyProof.Rows.EqDataRows
import PyProof.EnumMake
import PyProof.Rows.Range3
import PyProof.Rows.SortShell
import PyProof.Rows.SortWalk
import PyProof.ListRange
import KE.KSortTup
import KE.KDictOf
import KE.KMinKey
import KE.KDictList
import PyProof.Rows.SetFrom
import PyProof.SetScanFacts
import KE.KRevIter
import PyProof.FString
import PyProof.Rows.StrJoin2
import KE.KIntText
import PyProof.Draws
import PyProof.StrLawsTight
import PyProof.StrLawsIdx
set_option compiler.extract_closed false
set_option autoImplicit true
local macro_rules|`(tactic|exists $es,*)=>`(tactic|refine ⟨$es,*, ?_⟩)
open List renaming length_map->qAa,getElem?_eq_getElem->qAc,getElem?_map->qAf,range->qAh,getD_eq_getElem?_getD->qAj,length_append->qAo,mem_of_getElem?->qAq,mem_cons_of_mem->qAs,mem_append_right->qAt,length_cons->qAw,map_cons->qBa,size_toArray->qBc,length_range->qBg,mem_cons_self->qBn,map_map->qBo,replicate->qBq,getElem?_append_left->qBu,map_append->qBw,filterMap_append->qBy,filterMap_eq_map'->qBz,getElem?_append_right->qCd,filterMap_cons->qCf,filter_cons_of_pos->qCg,sum_cons->qCh,append_nil->qCl,not_mem_nil->qCs,range_succ->qCt,getElem?_eq_none->qCu,filter_cons_of_neg->qCv,length_filterMap_le->qCy,mem_singleton->qCz,map_congr_left->qDa,filterMap_map->qDg,getElem_mem->qDm,length_drop->qDn,take_of_length_le->qDw,getElem?_range->qDx,append_assoc->qDy,mem_append_left->qEb,mem_cons->qEe,replicate_succ->qEi,take_length->qEk,length_take->qEl,toArray->qEm,map_nil->qEn,getElem?_cons_succ->qEt,filterMap_eq_map->qEy,nil_append->qFo,find?_cons->qFp,any_cons->qFq,flatten_cons->qFz,take_succ->qGb,eq_nil_of_length_eq_zero->qGf,lookup->qGl,map_filterMap->qGs,length_erase_of_mem->qHd,getElem?_take_of_lt->qHe,getElem?_cons_zero->qHh,length_pos_of_mem->qHn,getElem?_set_self->qHo,mem_append->qHv,length_replicate->qHw,length_nil->qHx,length_filter_le->qHy,set->qIc,getElem?_of_mem->qIg,filterMap->qIk,pairwise_cons->qIu,map_drop->qIv,nodup_append->qIy,getElem?_inj->qIz,nodup_range->qJk,lookup_cons->qJl,all_eq_true->qJm,of_mem_zip->qJx,nodup_cons->qJy,length_set->qJz,nodup_nil->qKj,drop_left->qKk,drop_drop->qKl,range_succ_eq_map->qKt,find?_cons_of_pos->qKu,find?_cons_of_neg->qKv,drop_of_length_le->qKw,length_singleton->qLe,any_map->qLf,all_map->qLg,mem_erase_of_ne->qLm,getElem?_set_ne->qLn,getElem_of_mem->qLq,zip_cons_cons->qMd,getElem?_drop->qMe,filter_append->qMf,filterMap_nil->qMg,pairwise_map->qMk,foldl->qMl,ext_getElem?->qMm,range'_succ->qMp,getElem_inj->qMq,cons_append->qMr,sum_append->qMw,mem_filter->qMx,take_left->qNb,mem_range->qNc,drop_zero->qNd,map_take->qNj,all_cons->qNk,map_set->qNt,map_id->qOk,length->qOl
open PySem.W renaming Frag->qAb,findIn->qAe,keepIn->qAu,codeIn->qBd,fnOf->qBh,nsIn->qBp,isFn->qBr,mg_none_of->qCe,mroIn->qCn,mg_of->qCo,kitOne->qDc,plainGet->qDj,hasDictIn->qDl,plainOver->qDo,emptyDict->qDp,makesIn->qDz,specialIn->qEc,instObj->qEf,excIn->qEr,takesIn->qFj,callWith_K->qFk,Looks->qFl,looks_findIn->qGe,methodCall_KW->qHk,typeIn->qHs,lookIn->qHt,plainGet_of->qIa,methodObj->qIm,takerIn->qJa,hideAll->qJb,clsIn->qKb,cellsFrom_some->qKf,looks_mroIn->qKr,hideAll_get->qKs,of_hideAll->qLd,kitx_list->qLj,kitx_dict->qLk,handedIn->qLo,readsIn->qLv,findCls->qLw,OpenLaw->qLx,WalkO->qMo,KitX->qMs
open PySem renaming wpAny_bind->qAd,sizeLine->qAg,Value->qAi,wpAny_pure->qAm,Shared->qAp,mainGlobals->qBe,Program->qBl,wpAny->qBs,starEach->qBx,model->qCb,FuncData->qCi,wpAny_holding->qCm,World->qCr,wpAny_truthy_bool->qCw,bootBuiltins->qCx,compareOp->qDd,Around->qDf,wpAny_newObj_type->qDr,wpAny_pyIter_list->qEa,wpAny_Call_Name_kw->qEq,binaryOp->qEu,keywordEach->qEw,wpAny_typeNameOfWhole_keyiter->qEx,wpAny_mono->qFa,backTo->qFb,wpAny_passesOwn->qFc,wpAny_of_eq->qFd,sysModules->qFg,foldedSetIterable->qFh,wpAny_call_entry->qFs,sizeLine_eq->qFw,wpAny_typeNameOf_keyiter->qFx,codeAny_mono->qFy,wpAny_standAt->qGc,wpAny_callSpecial?_slot->qGd,wpAny_call->qGg,wpAny_tryCatch->qGj,codeAny_call_builtin->qGq,PyData->qGr,backToKw->qGt,wpAny_ite_false->qGv,wpAny_execs_nil->qGw,tupleKind->qGx,sliceBounds->qGy,holding->qGz,codeAny_builtin->qHa,codeAny->qHb,tupleKind_room_in1->qHj,wpAny_pyIter_enum->qHq,call_meets->qHr,getItem->qId,cLine->qIe,behindInMarks->qIf,relabel->qIp,letOwnedTupleGo->qIq,getMethod->qIr,assignEach->qIw,Scope->qJh,wpAny_attempt->qJp,swapsWith->qJq,plainId_quiet->qJr,comprehension->qJs,cellsFrom->qJt,assign->qJu,IsPart->qJv,standAt->qKd,pyNext->qKn,NameKind->qKq,wpAny_letGo->qKy,valueAt->qKz,subscripted->qLa,rawInt->qLb,callerA->qLc,entryOfKey->qLs,closureFor->qLt,callWith->qMh,bindArgs->qMi,BindsTo->qMj,atKey->qNf,again->qNg,compPost->qNo,bindName->qNp,GenState->qNq,bindL->qNu,bindC->qNv,newList->qOp,isTrue->qOq,Result->qOr,Keyword->qOs
open PySem.Heap renaming get?_push_of_some->qAk,lt_size->qAy,get?_push_size->qAz,get?_update_ne->qGm,size_push->qGu,size_update->qHl,SameBut->qHz,get?_none_of_le->qIh,get?_update_other->qKx,get?_update_self->qLh,get?_push_ne->qMn,MadeExcOf->qNe
open Nat renaming le_refl->qAl,lt_of_lt_of_le->qAr,le_trans->qAx,le_of_lt->qBb,zero_le->qBf,lt_of_le_of_lt->qBi,lt_or_ge->qBj,ne_of_lt->qBk,pow_le_pow_right->qBt,le_antisymm->qDe,eq_zero_or_pos->qDt,mul_le_mul_right->qEd,lt_irrefl->qEg,lt_succ_self->qFi,sub_le->qFm,lt_trans->qFn,one_le_two_pow->qFt,pow_pos->qGa,le_succ->qGn,lt_trichotomy->qHg,le_add_right->qHm,toDigits->qIb,add_le_add->qIl,lt_succ_of_lt->qJe,succ_mul->qJi,le_of_eq->qJj,succ_le_succ->qJn,div_eq_of_lt->qJo,add_le_add_right->qLp,sub_lt_sub_left->qLz,mul_le_mul_left->qMa,add_mul->qMb,add_le_add_left->qMc,succ_ne_self->qMt,min_eq_right->qMu,le_of_not_lt->qMv,strongRecOn->qMy,not_lt_zero->qMz,min_eq_left->qNa,mul_le_mul->qNi,add_assoc->qNs,zero_div->qOe,succ_pos->qOf,sub_zero->qOg,sub_self->qOh,ne_of_gt->qOi,le_total->qOj,one_mul->qOn,log2_lt->qOo
open Bool renaming false_ne_true->qAn,and_eq_true->qAv,or_eq_true->qDs,false_and->qEv,eq_iff_iff->qEz,and_false->qFf,false_eq_true->qFr,and_true->qHi,or_true->qJg,or_false->qKo,false_or->qNm
open PySem.Builtin renaming bitAnd->qBm,bitOr->qCq
open Int renaming toNat_natCast->qBv,natCast_nonneg->qDu,zero_add->qEh,emod_lt_of_pos->qEo,natAbs_natCast->qFu,emod_nonneg->qFv,ofNat_sub->qGk,toNat_of_nonneg->qGo,negSucc->qGp,one_mul->qIn,le_refl->qIo,natAbs_add_le->qJf,fdiv_eq_ediv_of_nonneg->qKm,mul_nonneg->qNl,le_trans->qOm
open Array renaming length_toList->qCa,toList_append->qDk,getElem?_eq_getElem->qEp,getD->qGi,getElem?_toList->qHp,getElem?_eq_none->qKp,append_assoc->qLr,toList->qNn
open PySem.F renaming plainAttrs_str->qCc,type_list_append->qCj,slot_list_append->qCk,plainAttrs_list->qCp,type_str_join->qDh,slot_str_join->qDi,plain_min_loop->qDv,entry_min_loop->qHf,type_str_startswith->qJc,slot_str_startswith->qJd,args_tuple_add_2->qJw,entry_tuple_add->qKc,type_str_split->qKg,slot_tuple_add->qKh,slot_str_split->qKi
open Classical renaming byContradiction->qDb
open PyProof.Rows renaming seqObj->qDq,IntsAre->qFe,get?_update_seq->qHc,kindOf->qIi,envOfC->qIj,AllBare->qIs,sortedHeap->qKe,size_push'->qLu,IsTup->qNw
open PyProof.Rows renaming slot_tuple_getitem->qEj,callWith_type1->qEs,toString_length_le->qHu,truthy_int->qNx,ofString_length->qNy,lt_int->qNz,len_le_of_split->qOa,ge_int->qOb,evalArgs_kw2->qOc,callWith_builtin1->qOd
open Option renaming map_some->qGh,isSome_map->qIt,getD_some->qIx,isSome_some->qLl,getD_none->qLy,none->qNh,map->qNr
open PySem.Calls renaming Name_function_global->qKa,evalArgs_plain->qLi
theorem cC{α:Sort _}{a:α}{b:Prop}:a=a\/b:=.inl rfl
set_option Elab.async false
set_option linter.all false
set_option maxRecDepth 100000
local macro_rules
| `(#[0])=>`(by rfl)
| `(#[1])=>`(by decide)
| `(#[2])=>`(by decide +kernel)
| `(#[3])=>`(by first|exact .inl rfl|exact .inr rfl)
| `(#[6])=>`(fun _ _=>rfl)
| `(#[7])=>`(by with_unfolding_all rfl)
| `(#[8,$l])=>`(show (($l):List PySem.Str).Nodup from by decide +kernel)
| `(#[9])=>`(PySem.PassesOwn.never)
namespace L2
open PySem PySem.Spec PyProof.Rows
theorem mH:1<=qAg:=by decide
theorem kY:2<=qAg:=by decide
theorem Cb:3<=qAg:=by decide
abbrev Key:=Sum Int Str
def rF:Key->qAi->Bool
 | .inl k,v=>Value.isInt k v
 | .inr x,v=>Value.isStrOf x v
def PH(w:qCr):Key->Int
 | .inl k=>hashInt k
 | .inr x=>hashStr w x
theorem dA:∀{k:Key}{v:qAi},rF k v=true->(∃i t,k=Sum.inl i/\v=Value.int i t)\/(∃x t,k=Sum.inr x/\v=Value.str x t)
 | .inl i,v,h=>by
  obtain⟨t,e⟩:=Value.isInt_shape (k:=i) (v:=v) h;exact .inl ⟨i,t,rfl,e⟩
 | .inr x,v,h=>by
  obtain⟨t,e⟩:=Value.isStrOf_shape (x:=x) (v:=v) h;exact .inr ⟨x,t,rfl,e⟩
theorem AE(i:Int)(t:Tok):rF (.inl i) (.int i t)=true:=by simp[rF,Value.isInt]
theorem AF(x:Str)(t:Tok):rF (.inr x) (.str x t)=true:=by simp[rF,Value.isStrOf]
theorem HP(a b:Int):decide ((Sum.inl a:Key)=Sum.inl b)=(a == b):=by
 by_cases e:a=b
 .subst e;simp
 .have h:¬(Sum.inl a:Key)=Sum.inl b:=fun q=>e (Sum.inl.inj q);rw[decide_eq_false h];exact(beq_eq_false_iff_ne.mpr e).symm
theorem HQ(a b:Str):decide ((Sum.inr a:Key)=Sum.inr b)=decide (a=b):=by
 by_cases e:a=b
 .subst e;simp
 .have h:¬(Sum.inr a:Key)=Sum.inr b:=fun q=>e (Sum.inr.inj q);rw[decide_eq_false h,decide_eq_false e]
theorem HR(a:Int)(b:Str):decide ((Sum.inl a:Key)=Sum.inr b)=false:=decide_eq_false (fun q=>nomatch q)
theorem HS(a:Str)(b:Int):decide ((Sum.inr a:Key)=Sum.inl b)=false:=decide_eq_false (fun q=>nomatch q)
def dB(prog:qBl)(w:qCr):PySem.KeyKind prog w Key where
 is:=rF
 hash:=PH w
 inj:=fun v a b ha hb=>by
  rcases dA ha with ⟨i,t,rfl,rfl⟩ | ⟨x,t,rfl,rfl⟩
  .rcases dA hb with ⟨j,u,rfl,e⟩ | ⟨y,u,rfl,e⟩
   .injection e with e1 _;rw[e1]
   .exact nomatch e
  .rcases dA hb with ⟨j,u,rfl,e⟩ | ⟨y,u,rfl,e⟩
   .exact nomatch e
   .injection e with e1 _;rw[e1]
 byValue:=fun k v h=>by
  rcases dA h with ⟨i,t,rfl,rfl⟩ | ⟨x,t,rfl,rfl⟩ <;> rfl
 pyHash:=fun hv h=>by
  rcases dA hv with ⟨i,t,rfl,rfl⟩ | ⟨x,t,rfl,rfl⟩
  .exact wpAny_pyHash_int h
  .exact wpAny_pyHash_str h
 eqBool:=fun hu hv h=>by
  rcases dA hu with ⟨i,t,rfl,rfl⟩ | ⟨x,t,rfl,rfl⟩
  .rcases dA hv with ⟨j,u,rfl,rfl⟩ | ⟨y,u,rfl,rfl⟩
   .rw[HP] at h;exact wpAny_eqBool_int h
   .rw[HR] at h;exact SeqAt.EqAt.int_str i t y u _ _ _ _ h
  .rcases dA hv with ⟨j,u,rfl,rfl⟩ | ⟨y,u,rfl,rfl⟩
   .rw[HS] at h;exact SeqAt.EqAt.str_int x t j u _ _ _ _ h
   .rw[HQ] at h;exact wpAny_eqBool_str h
 «strs»:=fun k x t v h=>by
  rcases dA h with ⟨i,u,rfl,e⟩ | ⟨y,u,rfl,e⟩
  .exact nomatch e
  .injection e with e1 _
   subst e1;cases v <;> rfl
theorem uU(prog:qBl)(w:qCr)(i:Int)(t:Tok):(dB prog w).is (.inl i) (.int i t)=true:=AE i t
theorem uV(prog:qBl)(w:qCr)(x:Str)(t:Tok):(dB prog w).is (.inr x) (.str x t)=true:=AF x t
inductive V where
 | non | bl (b:Bool) | int (i:Int) | str (x:Str) | byt (b:Array UInt8) | flt (b:UInt64) | ref (a:Addr) | ty (n:String)
 deriving DecidableEq
def RelV:V->qAi->Prop
 | .non,u=>u=Value.none
 | .bl b,u=>u=Value.bool b
 | .int i,u=>∃t,u=Value.int i t
 | .str x,u=>∃t,u=Value.str x t
 | .byt b,u=>∃t,u=Value.bytes b t
 | .flt b,u=>∃t,u=Value.float b t
 | .ref a,u=>u=Value.ref a
 | .ty n,u=>u=Value.type n
abbrev Vals:List V->List qAi->Prop:=Paired RelV
theorem Vals.length(r:Vals xs us):xs.length=us.length:=Paired.length r
theorem Vals.get:∀{xs:List V}{us:List qAi}{i:Nat}{x:V},Vals xs us->xs[i]?=some x->∃u,us[i]?=some u/\RelV x u
 | _,_,_,_,.nil,e=>by simp at e
 | _,_,0,_,.cons r _,e=>by simp at e;subst e;exact⟨_,rfl,r⟩
 | _,_,i+1,x,.cons _ t,e=>by
  obtain⟨u,h1,h2⟩:=Vals.get (i:=i) (x:=x) t (by simpa using e);exact⟨u,by simpa using h1,h2⟩
theorem Vals.set(r:RelV x u):∀{xs:List V}{us:List qAi} (i:Nat),Vals xs us->Vals (xs.set i x) (us.set i u)
 | _,_,_,.nil=>.nil
 | _,_,0,.cons _ t=>.cons r t
 | _,_,i+1,.cons q t=>.cons q (Vals.set r i t)
theorem Vals.append:∀{xs ys:List V}{us ws:List qAi},Vals xs us->Vals ys ws->Vals (xs++ys) (us++ws)
 | _,_,_,_,.nil,s=>s
 | _,_,_,_,.cons r t,s=>.cons r (Vals.append t s)
theorem Vals.take:∀{xs:List V}{us:List qAi} (n:Nat),Vals xs us->Vals (xs.take n) (us.take n)
 | _,_,0,_=>.nil
 | _,_,_+1,.nil=>.nil
 | _,_,n+1,.cons r t=>.cons r (Vals.take n t)
theorem Vals.drop:∀{xs:List V}{us:List qAi} (n:Nat),Vals xs us->Vals (xs.drop n) (us.drop n)
 | _,_,0,r=>r
 | _,_,_+1,.nil=>.nil
 | _,_,n+1,.cons _ t=>Vals.drop n t
def kB:Option V->Option qAi->Prop
 | some v,some u=>RelV v u
 | none,none=>True
 | _,_=>False
def KV{κ:Type}:List (κ×V)->List (κ×qAi)->Prop:=Paired fun(p:κ×V) (q:κ×qAi)=>p.1=q.1/\RelV p.2 q.2
def kV:Key->V
 | .inl i=>.int i
 | .inr x=>.str x
inductive HO where
 | lst (xs:List V)
 | tup (xs:List V)
 | dK (kvs:List (Key×V)) | dT (kvs:List (List Key×V))
 | set (S:Int->Bool) (n:Nat)
 | ins (C dx:Addr) (fs:List (Str×V))
 | own (x:Addr)
 | xd (fs:List (Str×V))
 | met (f x:Addr)
 | rng (lo hi:Int)
 | frz (o:Obj) (u:HO)
 | tbl (ps:Array qAi)
 | ext (φ:Heap->Prop)
abbrev Hp:=Addr->Option HO
def upd(H:Hp)(a:Addr)(o:HO):Hp:=fun b=>if b=a then some o else H b
theorem aC:upd H a o a=some o:=by delta upd;rw[if_pos rfl]
theorem aQ(h:b≠a):upd H a o b=H b:=by delta upd;rw[if_neg h]
theorem EG:upd (upd H a o) a u=upd H a u:=by
 funext b;delta upd;split <;> rfl
theorem fP{H:Hp}{a b:Addr}{o u:HO}(h:H a=some o)(h':H b=some u)(d:o≠u):a≠b:=by
 intro e;subst e;rw[h] at h';exact d (Option.some.inj h')
theorem bG{H:Hp}{a b:Addr}{o:HO}(h:H a=some o)(h':H b=none):a≠b:=by
 intro e;subst e;rw[h] at h';cases h'
section
variable (P:qBl) (w:qCr)
def dO(H:Hp)(h:Heap)(a:Addr):HO->Prop
 | .lst xs=>xs.length<=qAg/\∃(its:List qAi) (n:Nat),Vals xs its/\h.get? a=some { cls:=.type "list",data:=.seq its.toArray n }
 | .tup xs=>xs.length<=qAg/\∃its:List qAi,Vals xs its/\qNw h a its.toArray
 | .dK kvs=>kvs.length<=qAg/\(a == qFg)=false/\∃vs,KV kvs vs/\h.DictOf (dB P w) a vs
 | .dT kvs=>kvs.length<=qAg/\(a == qFg)=false/\∃xs:List (List Key×Addr×qAi),
   Paired (fun(p:List Key×V) (q:List Key×Addr×qAi)=>p.1=q.1/\H q.2.1=some (.tup (p.1.map kV))/\RelV p.2 q.2.2) kvs xs /\
   ∃o es ep,h.get? a=some o/\o.ExactDict/\o.data = .dict es ep/\es.toList=xs.map (qLs (qGx (dB P w)))/\(xs.map (·.1)).Nodup
 | .set S n=>h.SetOf (intKind P w) a S n
 | .ins C dx fs=>H dx=some (.own a)/\fs.length<=1000/\dx≠a/\h.get? a=some (qEf C dx) /\
   ∃mA,h.Ns1 dx mA/\(∀f,kB (fs.lookup f) (mA f))/\PySem.Within mA (fs.map (·.1))
 | .own _=>∃o,h.get? a=some o
 | .xd fs=>∃mA,h.Ns1 a mA/\∀f,kB (fs.lookup f) (mA f)
 | .rng lo hi=>∃t u v,h.get? a=some { cls:=.type "range",data:=.fields #[.int lo t,.int hi u,.int 1 v] }
 | .frz o u=>h.get? a=some o/\dO H h a u
 | .tbl ps=>h.get? a=some { cls:=.none,data:=.fields ps }
 | .met f x=>h.get? a=some (qIm (.ref f) (.ref x))
 | .ext φ=>φ h/\(∃o,h.get? a=some o)/\∀h1 h2:Heap,φ h1->(∀o,h1.get? a=some o->h2.get? a=some o)->φ h2
def kG(H:Hp)(h:Heap):Prop:=∀a o,H a=some o->dO P w H h a o
end
section
variable {P:qBl}{w:qCr}{H H':Hp}{h h':Heap}{a:Addr}{o:HO}
theorem dO.lt(x:dO P w H h a o):a<h.objs.size:=by
 cases o with
 | lst xs=>obtain⟨_,_,_,_,e⟩:=x;exact qAy e
 | tup xs=>obtain⟨_,_,_,p⟩:=x;exact p.lt
 | dK kvs=>obtain⟨_,_,_,_,o,_,_,e,_⟩:=x;exact qAy e
 | dT kvs=>obtain⟨_,_,_,_,o,_,_,e,_⟩:=x;exact qAy e
 | set S n=>obtain⟨o,_,_,_,e,_⟩:=x;exact qAy e
 | ins C dx fs=>obtain⟨_,_,_,e,_⟩:=x;exact qAy e
 | own y=>obtain⟨_,e⟩:=x;exact qAy e
 | xd fs=>obtain⟨_,⟨_,_,_,e,_⟩,_⟩:=x;exact qAy e
 | rng lo hi=>obtain⟨_,_,_,e⟩:=x;exact qAy e
 | frz ob u=>obtain⟨e,_⟩:=x;exact qAy e
 | tbl ps=>exact qAy (show h.get? a=some _ from x)
 | met f y=>exact qAy (show h.get? a=some _ from x)
 | ext φ=>obtain⟨_,⟨_,e⟩,_⟩:=x;exact qAy e
theorem Paired.HU:∀{l₁:List α}{l₂:List β},Paired F l₁ l₂->(∀a b,F a b->G a b)->Paired G l₁ l₂
 | _,_,.nil,_=>.nil
 | _,_,.cons r t,f=>.cons (f _ _ r) (Paired.HU t f)
theorem dO.kM(x:dO P w H h a o)(k:∀b u,(b=a\/H b=some (.own a))->h.get? b=some u->h'.get? b=some u)
  (ho:∀b,H b=some (.own a)->H' b=some (.own a)) (ht:∀b xs,H b=some (.tup xs)->H' b=some (.tup xs)):dO P w H' h' a o:=by
 induction o with
 | lst xs=>obtain⟨z,its,n,r,e⟩:=x;exact⟨z,its,n,r,k _ _ (.inl rfl) e⟩
 | tup xs=>obtain⟨z,its,r,ob,e,c⟩:=x;exact⟨z,its,r,ob,k _ _ (.inl rfl) e,c⟩
 | dK kvs=>obtain⟨z,y,vs,r,ob,es,ep,e,c⟩:=x;exact⟨z,y,vs,r,ob,es,ep,k _ _ (.inl rfl) e,c⟩
 | dT kvs =>
  obtain⟨z,y,xs,r,ob,es,ep,e,c⟩:=x;exact⟨z,y,xs,Paired.HU r fun p q z=>⟨z.1,ht _ _ z.2.1,z.2.2⟩,ob,es,ep,k _ _ (.inl rfl) e,c⟩
 | set S n=>obtain⟨ob,es,ep,t,e,c⟩:=x;exact⟨ob,es,ep,t,k _ _ (.inl rfl) e,c⟩
 | ins C dx fs =>
  obtain⟨d,z,ne,e,mA,⟨od,es,ep,e2,c⟩,r⟩:=x;exact⟨ho _ d,z,ne,k _ _ (.inl rfl) e,mA,⟨od,es,ep,k _ _ (.inr d) e2,c⟩,r⟩
 | own y=>obtain⟨ob,e⟩:=x;exact⟨ob,k _ _ (.inl rfl) e⟩
 | xd fs=>obtain⟨mA,⟨od,es,ep,e,c⟩,r⟩:=x;exact⟨mA,⟨od,es,ep,k _ _ (.inl rfl) e,c⟩,r⟩
 | rng lo hi=>obtain⟨t,u,v,e⟩:=x;exact⟨t,u,v,k _ _ (.inl rfl) e⟩
 | frz ob u ih=>obtain⟨e,q⟩:=x;exact⟨k _ _ (.inl rfl) e,ih q⟩
 | tbl ps =>
  have e:h.get? a=some { cls:=.none,data:=.fields ps }:=x;show h'.get? a=some { cls:=.none,data:=.fields ps };exact k a _ (.inl rfl) e
 | met f y =>
  have e:h.get? a=some (qIm (.ref f) (.ref y)):=x;show h'.get? a=some (qIm (.ref f) (.ref y));exact k a _ (.inl rfl) e
 | ext φ=>obtain⟨p,⟨o,e⟩,st⟩:=x;exact⟨st _ _ p fun o q=>k _ _ (.inl rfl) q,⟨o,k _ _ (.inl rfl) e⟩,st⟩
theorem kG.lt(x:kG P w H h)(e:H a=some o):a<h.objs.size:=(x a o e).lt
theorem kG.fresh(x:kG P w H h)(e:h.objs.size<=a):H a=none:=by
 cases q:H a with
 | none=>rfl
 | some u=>exact absurd (qAr (x.lt q) e) (qEg _)
theorem kG.kept(x:kG P w H h)(k:∀b u,h.get? b=some u->h'.get? b=some u):kG P w H h':=fun a o e =>
 (x a o e).kM (fun b u _ q=>k b u q) (fun _ q=>q) fun _ _ q=>q
theorem kG.laid(x:kG P w H h)(k:∀b u,h.get? b=some u->h'.get? b=some u)(hp:h.objs.size<=a)(new:dO P w (upd H a o) h' a o):kG P w (upd H a o) h':=fun b u e=>by
 have hn:=x.fresh hp;by_cases hb:b=a
 .subst hb;rw[aC] at e;cases e;exact new
 .rw[aQ hb] at e;exact(x b u e).kM (fun c v _ q=>k c v q) (fun c q=>by rw[aQ (bG q hn)];exact q) fun c xs q=>by rw[aQ (bG q hn)];exact q
end
def Rd(H:Hp)(a:Addr)(u:HO):Prop:=H a=some u\/∃o,H a=some (.frz o u)
theorem Rd.ok(r:Rd H a u)(x:kG P w H h):dO P w H h a u:=by
 rcases r with r | ⟨o,r⟩
 .exact x a u r
 .obtain⟨_,q⟩:=x a _ r;exact q
def Mu:Option HO->Prop
 | some (.lst _)=>True
 | some (.dK _)=>True
 | some (.dT _)=>True
 | some (.set _ _)=>True
 | some (.ins _ _ _)=>True
 | some (.ext _)=>True
 | _=>False
section
variable {P:qBl}{w:qCr}{H:Hp}{h h':Heap}{x e:Addr}{o':HO}
theorem kG.write(ok:kG P w H h)(mu:Mu (H x))(he:e=x\/H e=some (.own x))(k:∀b u,b≠e->h.get? b=some u->h'.get? b=some u)(heo:∃u,h'.get? e=some u)
  (new:dO P w (upd H x o') h' x o'):kG P w (upd H x o') h':=fun b u q=>by
 have nown:∀c y,H c=some (.own y)->c≠x:=fun c y r z=>by subst z;rw[r] at mu;exact mu
 have ntup:∀c xs,H c=some (.tup xs)->c≠x:=fun c xs r z=>by subst z;rw[r] at mu;exact mu
 by_cases hb:b=x
 .subst hb;rw[aC] at q;cases q;exact new
 .rw[aQ hb] at q;by_cases hbe:b=e
  .have q':H b=some (.own x):=by
    rcases he with z | z
    .exact absurd (hbe.trans z) hb
    .rw[hbe];exact z
   rw[q] at q';cases q';obtain⟨v,hv⟩:=heo;exact⟨v,by rw[hbe];exact hv⟩
  .refine(ok b u q).kM (fun c v hc r=>k c v ?_ r) (fun c r=>by rw[aQ (nown c b r)];exact r) fun c xs r=>by rw[aQ (ntup c xs r)];exact r
   rcases hc with rfl | hc
   .exact hbe
   .rintro rfl;rcases he with z | z
    .exact nown c b hc z
    .rw[hc] at z;cases z;exact hb rfl
end
structure Un (fs ex:List Addr) (H H':Hp) (h h':Heap):Prop where
 keep:∀b o,h.get? b=some o->H b=none->b∉fs->b∉ex->h'.get? b=some o
 slot:∀b o,h.get? b=some o->H b=none->b∈fs->b∉ex->∃sl,h'.get? b=some { o with slots:=sl }
 free:∀b o,h.get? b=some o->H b=none->b∉ex->H' b=none
 there:∀b o,h.get? b=some o->b∉ex->∃o',h'.get? b=some o'
 jJ:∀b xs,H b=some (.tup xs)->H' b=some (.tup xs)
 kZ:∀b o u,H b=some (.frz o u)->H' b=some (.frz o u)
 mI:∀b ps,H b=some (.tbl ps)->∃more,H' b=some (.tbl (ps++more))
section
variable {fs fs' ex ex':List Addr}{H H1 H2:Hp}{h h1 h2 h':Heap}{a x e:Addr}{o:HO}
theorem Un.any(u:Un fs ex H H1 h h1){b:Addr}{ob:Obj}(q:h.get? b=some ob)(n:H b=none)(hx:b∉ex):∃sl,h1.get? b=some { ob with slots:=sl }:=by
 by_cases hb:b∈fs
 .exact u.slot b ob q n hb hx
 .exact⟨ob.slots,u.keep b ob q n hb hx⟩
theorem Un.kept(k:∀b u,h.get? b=some u->h'.get? b=some u):Un fs ex H H h h' :=
 ⟨fun b ob q _ _ _=>k b ob q,fun b ob q _ _ _=>⟨ob.slots,k b ob q⟩,fun _ _ _ n _=>n,fun b ob q _=>⟨ob,k b ob q⟩,fun _ _ q=>q,fun _ _ _ q=>q,fun _ ps q=>⟨#[],by rw[q];simp⟩⟩
theorem Un.refl:Un fs ex H H h h:=Un.kept fun _ _ q=>q
theorem Un.laid(k:∀b u,h.get? b=some u->h'.get? b=some u)(hp:h.objs.size<=a)(hn:H a=none):Un fs ex H (upd H a o) h h' where
 keep:=fun b u q _ _ _=>k b u q
 slot:=fun b u q _ _ _=>⟨u.slots,k b u q⟩
 free:=fun b u q n _=>by rw[aQ (qBk (qAr (qAy q) hp))];exact n
 there:=fun b u q _=>⟨u,k b u q⟩
 jJ:=fun b xs q=>by rw[aQ (bG q hn)];exact q
 kZ:=fun b u xs q=>by rw[aQ (bG q hn)];exact q
 mI:=fun b ps q=>⟨#[],by rw[aQ (bG q hn),q];simp⟩
theorem Un.write(mu:Mu (H x))(he:e=x\/H e=some (.own x))(k:∀b u,b≠e->h.get? b=some u->h'.get? b=some u)(heo:∃u,h'.get? e=some u):Un fs ex H (upd H x o) h h':=by
 have hx:∀b,H b=none->b≠x:=fun b n z=>by subst z;rw[n] at mu;exact mu
 have hb:∀b,H b=none->b≠e:=fun b n z=>by
  subst z;rcases he with r | r
  .exact hx b n r
  .rw[n] at r;cases r
 have hm:∀b u,H b=some u->¬Mu (some u)->b≠x:=fun b u q nm z=>by subst z;rw[q] at mu;exact nm mu
 refine⟨fun b u q n _ _=>k b u (hb b n) q,fun b u q n _ _=>⟨u.slots,k b u (hb b n) q⟩,fun b u q n _=>by rw[aQ (hx b n)];exact n,fun b u q _=>?_,
  fun b xs q=>by rw[aQ (hm b _ q fun z=>z)];exact q,fun b u xs q=>by rw[aQ (hm b _ q fun z=>z)];exact q,fun b ps q=>⟨#[],by rw[aQ (hm b _ q fun z=>z),q];simp⟩⟩
 by_cases hbe:b=e
 .subst hbe;exact heo
 .exact⟨u,k b u hbe q⟩
end
def Pt(h:Heap)(H:Hp):List Addr:=(qAh h.objs.size).filter fun a=>(H a).isSome
def sY(h:Heap)(H:Hp):Heap:=qJb h (Pt h H)
theorem AG(h:Heap)(H:Hp):(sY h H).objs.size=h.objs.size:=PySem.W.hideAll_size _ _
theorem Cc(e:h.get? b=some o)(n:H b=none):(sY h H).get? b=some o :=
 qKs _ e fun hm=>by
  have q:(H b).isSome=true:=(List.mem_filter.mp hm).2;rw[n] at q;simp at q
theorem EH(e:(sY h H).get? b=some o):h.get? b=some o/\H b=none:=by
 have e':h.get? b=some o:=qLd (Pt h H) e;exists e';cases q:H b with
 | none=>rfl
 | some x =>
  have hm:b∈Pt h H:=List.mem_filter.mpr ⟨List.mem_range.mpr (qAy e'),by simp[q]⟩;have z:(sY h H).get? b=none:=PySem.W.hideAll_none (Pt h H) hm;rw[z] at e;cases e
def EI(g h:Heap)(L:Addr):List (Addr×Obj):=(qAh h.objs.size).filterMap fun a=>if a=L\/(g.get? a).isSome=true then none else (h.get? a).map fun o=>(a,o)
def rest(g h:Heap)(L d:Addr):List (Addr×Obj):=(EI g h L).filter fun p=>decide (p.1≠d)
structure Mod (K:qAb) (mg:Str->Option qAi) (base:Heap):Prop where
 Gz:K.In base
 glob:base.Ns qBe mg
 blt:∃mb,base.Ns builtinsNs mb/\∀x:Str,x≠"__name__"->mb x=qCx x
 nolimit:base.NoLimit
structure Cx where
 prog:qBl
 w:qCr
 K:qAb
 mg:Str->Option qAi
 base:Heap
 A:qDf
 N:List Str
 s₀:qAp
 H₀:Hp
 env:Env
 outer:List Env
 stack:List Env
 ex:List Addr
 fn:Str->Bool
 calm:Bool
 pn:List (Addr×Obj)
 xe:qAi->qAp->Prop
def oW(l:List Env):List Addr:=l.filterMap (·.frame)
abbrev Cx.fs(X:Cx):List Addr:=oW X.outer
def PM(sc:qJh)(x:Str):Prop:=sc.names.lookup x=some .local\/sc.names.lookup x=some .cell\/sc.names.lookup x=some .free
def Loc(sc:qJh)(x:Str):Prop:=sc.names.lookup x=some .local\/sc.names.lookup x=some .cell
def Look(env:Env)(h:Heap)(m:Str->Option qAi)(x:Str)(u:qAi):Prop :=
 (env.kindOf x=some .local/\m x=some u)\/((env.kindOf x=some .cell\/env.kindOf x=some .free)/\∃c,env.cells.lookup x=some c/\h.IsCell c (some u))
structure Cx.Ok (X:Cx):Prop where
 mod:Mod X.K X.mg X.base
 kind:X.env.scope.kind = .function
 glob:X.env.globals=qBe
 blt:X.env.builtins=builtinsNs
 above:X.s₀.heap.objs.size<=X.env.locals
 inj:∀x y c,X.env.cells.lookup x=some c->X.env.cells.lookup y=some c->x=y
 has:∀x,(X.env.kindOf x=some .cell\/X.env.kindOf x=some .free)->∃c,X.env.cells.lookup x=some c
 Mv:∀x c,X.fn x=true->X.env.cells.lookup x=some c->X.s₀.heap.objs.size<=c
 hd:X.calm=true->X.A.handled=none
 frames:X.A.frames=some X.stack
 Pu:X.stack=X.outer\/(X.stack=X.env::X.outer/\X.env.frame=some X.env.locals)
 RF:∀b∈X.ex,b≠X.env.locals/\∀x c,X.env.cells.lookup x=some c->c≠b
 bs:∀b o,X.base.get? b=some o->X.s₀.heap.get? b=some o/\X.H₀ b=none
 EF:X.base.objs.size<=X.s₀.heap.objs.size
 AH:∀b o,X.base.get? b=some o->b∉X.ex
 EJ:∀b∈X.ex,b∉X.fs
 kN:X.s₀.heap.FunFrames X.base X.outer
 GA:∀b∈X.fs,X.H₀ b=none
structure Inv (X:Cx) (pins:List (Addr×Obj)) (σ:List (Option V)) (H:Hp) (s:qAp):Prop where
 ok:X.Ok
 os:s.os=X.s₀.os
 bare:qIs s.gens
 base:Un X.fs X.ex X.H₀ H X.s₀.heap s.heap
 loc:∃m,s.heap.Ns X.env.locals m/\∀(i:Nat) (x:Str) (v:V),X.N[i]?=some x->σ[i]?=some (some v)->PM X.env.scope x->∃u,RelV v u/\Look X.env s.heap m x u
 cell:∀x c,X.env.cells.lookup x=some c->∃v,s.heap.IsCell c v
 free:H X.env.locals=none
 jG:∀x c,X.env.cells.lookup x=some c->H c=none
 pin:∀p∈X.pn++pins,s.heap.get? p.1=some p.2/\H p.1=none/\p.1≠X.env.locals/\p.1∉X.fs/\∀v,p.2.data≠.cell v
 cK:kG X.prog X.w H s.heap
 len:σ.length=X.N.length
section
variable {X:Cx}{pins:List (Addr×Obj)}{σ:List (Option V)}{H H':Hp}{s:qAp}{h':Heap}
theorem Cx.Ok.PN(ok:X.Ok){b:Addr}{o:Obj}(e:X.base.get? b=some o):b∉X.fs:=fun hb=>by
 have:=(ok.kN.mem hb).1;rw[e] at this;cases this
theorem Inv.bs(I:Inv X pins σ H s):∀b o,X.base.get? b=some o->s.heap.get? b=some o/\H b=none:=fun b o e =>
 ⟨I.base.keep b o (I.ok.bs b o e).1 (I.ok.bs b o e).2 (I.ok.PN e) (I.ok.AH b o e),I.base.free b o (I.ok.bs b o e).1 (I.ok.bs b o e).2 (I.ok.AH b o e)⟩
theorem Inv.bk(I:Inv X pins σ H s):∀b o,X.base.get? b=some o->s.heap.get? b=some o:=fun b o e=>(I.bs b o e).1
theorem Inv.mod(I:Inv X pins σ H s):Mod X.K X.mg X.base:=I.ok.mod
theorem Inv.qL(I:Inv X pins σ H s):X.K.In s.heap:=I.ok.mod.Gz.keeps I.bk
theorem Inv.lt(I:Inv X pins σ H s):X.env.locals<s.heap.objs.size:=let ⟨_,hn,_⟩:=I.loc;hn.lt
theorem Inv.sz(I:Inv X pins σ H s):X.s₀.heap.objs.size<=s.heap.objs.size:=qAx I.ok.above (qBb I.lt)
theorem Inv.HV(I:Inv X pins σ H s){a:Addr}(h:s.heap.objs.size<=a):a∉X.fs:=fun hb=>by
 obtain⟨_,o,ho,_⟩:=I.ok.kN.mem hb;exact absurd (qAr (qAy ho) (qAx I.sz h)) (qEg _)
theorem Inv.HW(I:Inv X pins σ H s):∀x c,X.env.cells.lookup x=some c->c≠X.env.locals:=fun x c e z=>by
 obtain⟨v,o,ho,hd⟩:=I.cell x c e;obtain⟨m,⟨o',es,ep,ho',hd',_⟩,_⟩:=I.loc;rw[z,ho'] at ho;cases ho;rw[hd'] at hd;cases hd
theorem Inv.kN(I:Inv X pins σ H s):s.heap.FunFrames X.base X.outer:=by
 have all:∀(l:List Env),(∀b∈oW l,b∈X.fs)->X.s₀.heap.FunFrames X.base l->s.heap.FunFrames X.base l:=by
  intro l;induction l with
  | nil=>intro _ _;trivial
  | cons env r ih =>
   intro hs hl;obtain⟨hk,⟨L,o,hf,hn,ho,hd⟩,hr⟩:=hl;have hL:L∈X.fs:=hs L (by delta oW;rw[qCf,hf];exact qBn);obtain⟨sl,e⟩:=I.base.slot L o ho (I.ok.GA L hL) hL fun z=>I.ok.EJ L z hL;exact⟨hk,⟨L,_,hf,hn,e,hd⟩,ih (fun b hb=>hs b (by delta oW;rw[qCf,hf];exact qAs _ hb)) hr⟩
 exact all X.outer (fun _ hb=>hb) I.ok.kN
theorem Inv.stack(I:Inv X pins σ H s):s.heap.FunFrames X.base X.stack:=by
 rcases I.ok.Pu with e | ⟨e,hf⟩
 .rw[e];exact I.kN
 .rw[e];obtain⟨m,hn,_⟩:=I.loc;refine .cons (by rw[I.ok.kind];decide) hf hn ?_ I.kN;exact qIh (qAx I.ok.EF I.ok.above)
theorem Inv.kO(I:Inv X pins σ H s):∀b∈oW X.stack,b∈X.env.locals::X.fs:=fun b hb=>by
 rcases I.ok.Pu with e | ⟨e,hf⟩
 .rw[e] at hb;exact qAs _ hb
 .rw[e] at hb;delta oW at hb;rw[qCf,hf] at hb;exact hb
theorem Inv.oE(I:Inv X pins σ H s):∀b∈oW X.stack,H b=none:=fun b hb=>by
 rcases List.mem_cons.mp (I.kO b hb) with e | hb
 .rw[e];exact I.free
 .obtain⟨_,o,ho,_⟩:=I.ok.kN.mem hb;exact I.base.free b o ho (I.ok.GA b hb) fun z=>I.ok.EJ b z hb
theorem Inv.step{g':Array qNq}{t':Nat}{d':Drawn}{ch:List Addr}(I:Inv X pins σ H s)
  (hch:∀b∈ch,(b∈X.ex\/X.s₀.heap.objs.size<=b)/\b≠X.env.locals/\(∀x c,X.env.cells.lookup x=some c->c≠b)/\∀p∈X.pn++pins,p.1≠b)
  (keep:∀b o,b≠X.env.locals->b∉X.fs->b∉ch->s.heap.get? b=some o->H b=none->h'.get? b=some o)
  (slot:∀b o,b≠X.env.locals->b∈X.fs->b∉ch->s.heap.get? b=some o->H b=none->∃sl,h'.get? b=some { o with slots:=sl }) (free:∀b o,b∉ch->s.heap.get? b=some o->H b=none->H' b=none)
  (there:∀b o,b∉ch->s.heap.get? b=some o->∃o',h'.get? b=some o')
  (jJ:∀b xs,H b=some (.tup xs)->H' b=some (.tup xs)) (kZ:∀b o u,H b=some (.frz o u)->H' b=some (.frz o u)) (mI:∀b ps,H b=some (.tbl ps)->∃more,H' b=some (.tbl (ps++more)))
  (ns:∀m,s.heap.Ns X.env.locals m->h'.Ns X.env.locals m) (cK:kG X.prog X.w H' h') (hg:qIs g') :
  Inv X pins σ H' { s with heap:=h',gens:=g',drawn:=d',toks:=t' }:=by
 have neL:∀b o,X.s₀.heap.get? b=some o->b≠X.env.locals:=fun b o e=>qBk (qAr (qAy e) I.ok.above);have neC:∀b o,X.s₀.heap.get? b=some o->b∉X.ex->b∉ch:=fun b o e hx hb=>by
  rcases(hch b hb).1 with z | z
  .exact hx z
  .exact absurd (qAr (qAy e) z) (qEg _)
 have cellK:∀x c,X.env.cells.lookup x=some c->∀v,s.heap.IsCell c v->h'.IsCell c v:=fun x c e v ⟨o,ho,hd⟩=>by
  have nch:c∉ch:=fun z=>(hch c z).2.2.1 x c e rfl;by_cases hc:c∈X.fs
  .obtain⟨sl,q⟩:=slot c o (I.HW x c e) hc nch ho (I.jG x c e);exact⟨_,q,hd⟩
  .exact⟨o,keep c o (I.HW x c e) hc nch ho (I.jG x c e),hd⟩
 refine⟨I.ok,I.os,hg,⟨fun b o e n hb hx=>?_,fun b o e n hb hx=>?_,fun b o e n hx=>?_,fun b o e hx=>?_,fun b xs e=>jJ b xs (I.base.jJ b xs e),fun b o xs e=>kZ b o xs (I.base.kZ b o xs e),fun b ps e=>?_⟩,?_,fun x c e=>?_,?_,fun x c e=>?_,fun p hp=>?_,cK,I.len⟩
 .exact keep b o (neL b o e) hb (neC b o e hx) (I.base.keep b o e n hb hx) (I.base.free b o e n hx)
 .obtain⟨sl,e1⟩:=I.base.slot b o e n hb hx;obtain⟨sl',e2⟩:=slot b _ (neL b o e) hb (neC b o e hx) e1 (I.base.free b o e n hx);exact⟨sl',e2⟩
 .obtain⟨o',e1⟩:=I.base.there b o e hx;exact free b o' (neC b o e hx) e1 (I.base.free b o e n hx)
 .obtain⟨o',e1⟩:=I.base.there b o e hx;exact there b o' (neC b o e hx) e1
 .obtain⟨m1,e1⟩:=I.base.mI b ps e;obtain⟨m2,e2⟩:=mI b _ e1;exact⟨m1++m2,by rw[e2,qLr]⟩
 .obtain⟨m,hn,hl⟩:=I.loc;refine⟨m,ns m hn,fun i x v e1 e2 e3=>?_⟩;obtain⟨u,r,l⟩:=hl i x v e1 e2 e3;exists u,r;rcases l with l | ⟨k,c,e,z⟩
  .exact .inl l
  .exact .inr ⟨k,c,e,cellK x c e _ z⟩
 .obtain⟨v,z⟩:=I.cell x c e;exact⟨v,cellK x c e v z⟩
 .obtain⟨m,⟨o,_,_,ho,_⟩,_⟩:=I.loc;exact free _ o (fun z=>(hch _ z).2.1 rfl) ho I.free
 .obtain⟨v,o,ho,hd⟩:=I.cell x c e;exact free c o (fun z=>(hch c z).2.2.1 x c e rfl) ho (I.jG x c e)
 .obtain⟨e,n,ne,nf,d⟩:=I.pin p hp;have nch:p.1∉ch:=fun z=>(hch p.1 z).2.2.2 p hp rfl;exact⟨keep p.1 p.2 ne nf nch e n,free p.1 p.2 nch e n,ne,nf,d⟩
theorem Inv.un{t':Nat}(I:Inv X pins σ H s)(u:Un X.fs [] H H' s.heap h')(cK:kG X.prog X.w H' h'):Inv X pins σ H' { s with heap:=h',toks:=t' }:=by
 obtain⟨m,⟨o,es,ep,ho,r⟩,_⟩:=id I.loc;obtain⟨sl,hL⟩:=u.any ho I.free (by simp);exact I.step (g':=s.gens) (d':=s.drawn) (ch:=[]) (fun _ z=>nomatch z) (fun b o _ hb _ e n=>u.keep b o e n hb (by simp)) (fun b o _ hb _ e n=>u.slot b o e n hb (by simp)) (fun b o _ e n=>u.free b o e n (by simp)) (fun b o _ e=>u.there b o e (by simp)) u.jJ u.kZ u.mI (fun m' hm=>by
  obtain⟨o',es',ep',ho',r'⟩:=hm;rw[ho] at ho';cases ho';exact⟨_,es',ep',hL,r'⟩) cK I.bare
theorem Inv.call{g':Array qNq}{t':Nat}{d':Drawn}{ch:List Addr}(I:Inv X pins σ H s)(u:Un (oW X.stack) ch H H' s.heap h')(cK:kG X.prog X.w H' h')(hg:qIs g')
  (hch:∀b∈ch,(b∈X.ex\/X.s₀.heap.objs.size<=b)/\b≠X.env.locals/\(∀x c,X.env.cells.lookup x=some c->c≠b)/\∀p∈X.pn++pins,p.1≠b) :
  Inv X pins σ H' { s with heap:=h',gens:=g',drawn:=d',toks:=t' }:=by
 obtain⟨m,⟨o,es,ep,ho,r⟩,_⟩:=id I.loc;obtain⟨sl,hL⟩:=u.any ho I.free fun z=>(hch _ z).2.1 rfl;exact I.step (ch:=ch) hch (fun b o hL hb hc e n=>u.keep b o e n (fun z=>(List.mem_cons.mp (I.kO b z)).elim hL hb) hc) (fun b o _ _ hc e n=>u.any e n hc) (fun b o hc e n=>u.free b o e n hc) (fun b o hc e=>u.there b o e hc) u.jJ u.kZ u.mI (fun m' hm=>by
  obtain⟨o',es',ep',ho',r'⟩:=hm;rw[ho] at ho';cases ho';exact⟨_,es',ep',hL,r'⟩) cK hg
theorem Inv.turned{t':Nat}{it:Addr}(I:Inv X pins σ H s)(k:∀b o,b≠it->s.heap.get? b=some o->h'.get? b=some o)(hn:H it=none)(hL:it≠X.env.locals)
  (h1:it∈X.ex\/X.s₀.heap.objs.size<=it) (h2:∀x c,X.env.cells.lookup x=some c->c≠it) (h3:∀p∈X.pn++pins,p.1≠it):Inv X pins σ H { s with heap:=h',toks:=t' }:=by
 have nit:∀b u,H b=some u->b≠it:=fun b u e z=>by rw[z,hn] at e;cases e
 refine I.step (g':=s.gens) (d':=s.drawn) (ch:=[it]) (fun b hb=>?_) (fun b o _ _ hc e _=>k b o (fun z=>hc (by simp[z])) e) (fun b o _ _ hc e _=>⟨o.slots,k b o (fun z=>hc (by simp[z])) e⟩) (fun _ _ _ _ n=>n)
  (fun b o hc e=>⟨o,k b o (fun z=>hc (by simp[z])) e⟩) (fun _ _ e=>e) (fun _ _ _ e=>e) (fun b ps e=>⟨#[],by rw[e];simp⟩) (fun m hm=>?_) (fun b u e=>?_) I.bare
 .have e:b=it:=by simpa using hb
  subst e;exact⟨h1,hL,h2,h3⟩
 .obtain⟨o,es,ep,ho,r⟩:=hm;exact⟨o,es,ep,k _ o (Ne.symm hL) ho,r⟩
 .refine(I.cK b u e).kM (fun c v hc q=>k c v ?_ q) (fun _ q=>q) fun _ _ q=>q;rcases hc with z | z
  .rw[z];exact nit b u e
  .exact nit c _ z
theorem Inv.tok(I:Inv X pins σ H s)(t:Nat):Inv X pins σ H { s with toks:=t }:=I.un (h':=s.heap) (t':=t) Un.refl I.cK
theorem Inv.kept(I:Inv X pins σ H s)(k:∀b u,s.heap.get? b=some u->h'.get? b=some u):Inv X pins σ H { s with heap:=h',toks:=t' }:=I.un (Un.kept k) (I.cK.kept k)
theorem Inv.laid(I:Inv X pins σ H s)(k:∀b u,s.heap.get? b=some u->h'.get? b=some u)(hp:s.heap.objs.size<=a)(new:dO X.prog X.w (upd H a o) h' a o):
  Inv X pins σ (upd H a o) { s with heap:=h',toks:=t' }:=I.un (Un.laid k hp (I.cK.fresh hp)) (I.cK.laid k hp new)
theorem Inv.write(I:Inv X pins σ H s)(mu:Mu (H x))(he:e=x\/H e=some (.own x))(k:∀b u,b≠e->s.heap.get? b=some u->h'.get? b=some u)(heo:∃u,h'.get? e=some u)
  (new:dO X.prog X.w (upd H x o) h' x o):Inv X pins σ (upd H x o) { s with heap:=h',toks:=t' }:=I.un (Un.write mu he k heo) (I.cK.write mu he k heo new)
theorem Inv.sZ(I:Inv X pins σ H s)(h:∀p∈pins',s.heap.get? p.1=some p.2/\H p.1=none/\p.1≠X.env.locals/\p.1∉X.fs/\∀v,p.2.data≠.cell v):Inv X pins' σ H s :=
 ⟨I.ok,I.os,I.bare,I.base,I.loc,I.cell,I.free,I.jG,fun p hp=>(List.mem_append.mp hp).elim (fun z=>I.pin p (qEb _ z)) (h p),I.cK,I.len⟩
theorem uW{N:List Str}(hN:N.Nodup){i j:Nat}{x:Str}(a:N[i]?=some x)(b:N[j]?=some x):i=j:=by
 obtain⟨h1,e1⟩:=List.getElem?_eq_some_iff.mp a;obtain⟨h2,e2⟩:=List.getElem?_eq_some_iff.mp b;exact(qMq hN).mp (e1.trans e2.symm)
theorem mJ{M:Model}{A:qDf}{E:qAi->qAp->Prop}{i:Nat}{x:Str}{v:V}{u:qAi}{Q:Unit->qAp->Prop}(I:Inv X pins σ H s)(hN:X.N.Nodup)(hi:X.N[i]?=some x)(hx:Loc X.env.scope x)(r:RelV v u)
  (h:∀s',Inv X pins (σ.set i (some v)) H s'->(∃a,qHz a s.heap s'.heap/\(a=X.env.locals\/X.env.cells.lookup x=some a))->Q () s') (hf:X.fn x=true\/X.env.scope.names.lookup x=some .local:=by first|exact .inl rfl | exact .inr rfl | assumption):qBs M A (storeName X.env x u) Q E s:=by
 obtain⟨m,hn,hl⟩:=id I.loc;have hcls:(X.env.scope.kind == .class||(X.env.scope.kind == .module&&X.env.locals != X.env.globals))=false:=by rw[I.ok.kind];rfl
 have hiσ:i<σ.length:=by rw[I.len];exact(List.getElem?_eq_some_iff.mp hi).1
 have HW:=I.HW;have tracked:∀{a:Addr}{h':Heap},(∃o,s.heap.get? a=some o/\H a=none)->qHz a s.heap h'->kG X.prog X.w H h':=fun {a h'} ha hs b ob e=>by
  obtain⟨_,_,hfree⟩:=ha;refine(I.cK b ob e).kM (fun c w' hc q=>(hs.2 c ?_).trans q) (fun _ q=>q) fun _ _ q=>q;rintro rfl;rcases hc with rfl | hc
  .rw[hfree] at e;cases e
  .rw[hfree] at hc;cases hc
 rcases hx with hk | hk
 .refine wpAny_storeName_local hk hn (fun h' hn' hs=>?_) hcls;obtain⟨oL,_,_,hoL,_⟩:=id hn;refine h _ ⟨I.ok,I.os,I.bare,⟨fun b o e n hb hx=>?_,fun b o e n hb hx=>?_,I.base.free,fun b o e hx=>?_,I.base.jJ,I.base.kZ,I.base.mI⟩,⟨_,hn',fun j y v' e1 e2 e3=>?_⟩,fun y c e=>?_,I.free,I.jG,fun p hp=>?_,tracked ⟨oL,hoL,I.free⟩ hs,by simpa using I.len⟩ ⟨_,hs,.inl rfl⟩
  .exact(hs.2 b (qBk (qAr (qAy e) I.ok.above))).trans (I.base.keep b o e n hb hx)
  .obtain⟨sl,e1⟩:=I.base.slot b o e n hb hx;exact⟨sl,(hs.2 b (qBk (qAr (qAy e) I.ok.above))).trans e1⟩
  .obtain⟨o',e1⟩:=I.base.there b o e hx;exact⟨o',(hs.2 b (qBk (qAr (qAy e) I.ok.above))).trans e1⟩
  .by_cases hj:j=i
   .subst hj;rw[hi] at e1;cases e1;rw[qHo hiσ] at e2;cases e2;exact⟨u,r,.inl ⟨hk,by simp⟩⟩
   .rw[qLn (Ne.symm hj)] at e2;obtain⟨u',r',q⟩:=hl j y v' e1 e2 e3;exists u',r';rcases q with ⟨k,e⟩ | ⟨k,c,e,z⟩
    .refine .inl ⟨k,?_⟩;have:y≠x:=fun e=>hj (uW hN e1 (e▸hi));simp[this,e]
    .exact .inr ⟨k,c,e,z.sameBut hs (HW y c e)⟩
  .obtain⟨w',z⟩:=I.cell y c e;exact⟨w',z.sameBut hs (HW y c e)⟩
  .obtain⟨e,n,ne,nf,d⟩:=I.pin p hp;exact⟨(hs.2 p.1 ne).trans e,n,ne,nf,d⟩
 .have hfn:X.fn x=true:=by
   rcases hf with z | z
   .exact z
   .rw[z] at hk;cases hk
  obtain⟨c,hc⟩:=I.ok.has x (.inl hk);obtain⟨w',z⟩:=I.cell x c hc;refine wpAny_storeName_cell I.ok.kind hk hc z (fun h' hc' hs=>?_);obtain⟨oc,hoc,hocd⟩:=id z;refine h { s with heap:=h' } ⟨I.ok,I.os,I.bare,⟨fun b o e n hb hx=>?_,fun b o e n hb hx=>?_,I.base.free,fun b o e hx=>?_,I.base.jJ,I.base.kZ,I.base.mI⟩,⟨m,hn.sameBut hs (Ne.symm (HW x c hc)),fun j y v' e1 e2 e3=>?_⟩,fun y c' e=>?_,I.free,I.jG,fun p hp=>?_,tracked ⟨oc,hoc,I.jG x c hc⟩ hs,by simpa using I.len⟩ ⟨c,hs,.inr hc⟩
  .exact(hs.2 b (qBk (qAr (qAy e) (I.ok.Mv x c hfn hc)))).trans (I.base.keep b o e n hb hx)
  .obtain⟨sl,e1⟩:=I.base.slot b o e n hb hx;exact⟨sl,(hs.2 b (qBk (qAr (qAy e) (I.ok.Mv x c hfn hc)))).trans e1⟩
  .obtain⟨o',e1⟩:=I.base.there b o e hx;exact⟨o',(hs.2 b (qBk (qAr (qAy e) (I.ok.Mv x c hfn hc)))).trans e1⟩
  .by_cases hj:j=i
   .subst hj;rw[hi] at e1;cases e1;rw[qHo hiσ] at e2;cases e2;exact⟨u,r,.inr ⟨.inl hk,c,hc,hc'⟩⟩
   .rw[qLn (Ne.symm hj)] at e2;obtain⟨u',r',q⟩:=hl j y v' e1 e2 e3;exists u',r';rcases q with q | ⟨k,c',e,z'⟩
    .exact .inl q
    .refine .inr ⟨k,c',e,z'.sameBut hs ?_⟩;rintro rfl;exact hj (uW hN e1 (I.ok.inj _ _ _ e hc▸hi))
  .by_cases hcc:c'=c
   .subst hcc;exact⟨_,hc'⟩
   .obtain⟨w2,z2⟩:=I.cell y c' e;exact⟨w2,z2.sameBut hs hcc⟩
  .obtain⟨e,n,ne,nf,d⟩:=I.pin p hp;refine⟨(hs.2 p.1 ?_).trans e,n,ne,nf,d⟩;intro q;rw[q,hoc] at e;have q':oc=p.2:=Option.some.inj e;exact d w' (by rw[<- q'];exact hocd)
theorem k8(I:Inv X pins σ H s)(hN:X.N.Nodup)(hi:X.N[i]?=some x)(hx:Loc X.env.scope x)(r:RelV v u)
  (h:∀s',Inv X pins (σ.set i (some v)) H s'->Q () s') (hf:X.fn x=true\/X.env.scope.names.lookup x=some .local:=by first|exact .inl rfl | exact .inr rfl | assumption):qBs M A (storeName X.env x u) Q E s :=
 mJ I hN hi hx r (fun s' I' _=>h s' I') hf
theorem Inv.call'(I:Inv X pins σ H s)(ho:s'.os=s.os)(u:Un (oW X.stack) ch H H' s.heap s'.heap)(cK:kG X.prog X.w H' s'.heap)(hg:qIs s'.gens)
  (hch:∀b∈ch,(b∈X.ex\/X.s₀.heap.objs.size<=b)/\b≠X.env.locals/\(∀x c,X.env.cells.lookup x=some c->c≠b)/\∀p∈X.pn++pins,p.1≠b):Inv X pins σ H' s':=by
 obtain⟨h',g',d',t',o'⟩:=s';have e:o'=s.os:=ho;subst e;exact I.call (g':=g') (t':=t') (d':=d') u cK hg hch
end
abbrev XK:=qAi->Option Addr->Hp->Prop
abbrev St:=List (Option V)
abbrev VK:=V->Hp->Prop
abbrev TE:=St->Hp->VK->Prop
abbrev TT:=St->Hp->(Bool->Hp->Prop)->Prop
abbrev TA:=St->Hp->(List V->Hp->Prop)->Prop
structure Ends where
 nx:St->Hp->Prop
 rt:VK
 bk:St->Hp->Prop:=fun _ _=>False
 ct:St->Hp->Prop:=fun _ _=>False
abbrev TS:=Ends->St->Hp->Prop
def EP(X:Cx)(pins:List (Addr×Obj))(σ:St)(Q:VK)(u:qAi)(s':qAp):Prop:=∃v H',Inv X pins σ H' s'/\RelV v u/\Q v H'
def TP(X:Cx)(pins:List (Addr×Obj))(σ:St)(Q:Bool->Hp->Prop)(b:Bool)(s':qAp):Prop:=∃H',Inv X pins σ H' s'/\Q b H'
def AP(X:Cx)(pins:List (Addr×Obj))(σ:St)(Q:List V->Hp->Prop)(us:List qAi)(s':qAp):Prop:=∃vs H',Inv X pins σ H' s'/\Vals vs us/\Q vs H'
def SP(X:Cx)(pins:List (Addr×Obj))(D:Ends)(f:Flow)(s':qAp):Prop :=
 match f with
 | .next=>∃σ' H',Inv X pins σ' H' s'/\D.nx σ' H'
 | .brk=>∃σ' H',Inv X pins σ' H' s'/\D.bk σ' H'
 | .cont=>∃σ' H',Inv X pins σ' H' s'/\D.ct σ' H'
 | .ret u=>∃v σ' H',Inv X pins σ' H' s'/\RelV v u/\D.rt v H'
def PE(X:Cx)(e:Expr)(t:TE):Prop :=
 ∀(pins:List (Addr×Obj)) (s:qAp) (σ:St) (H:Hp) (Q:VK),Inv X pins σ H s->t σ H Q->qBs (qCb X.prog X.w) X.A (eval e X.env) (EP X pins σ Q) X.xe s
def PT(X:Cx)(e:Expr)(t:TT):Prop :=
 ∀(pins:List (Addr×Obj)) (s:qAp) (σ:St) (H:Hp) (Q:Bool->Hp->Prop),Inv X pins σ H s->t σ H Q->qBs (qCb X.prog X.w) X.A (qOq e X.env (eval e X.env)) (TP X pins σ Q) X.xe s
def PW(X:Cx)(e:Expr)(t:TT):Prop :=
 ∀(whole:Sem qAi) (pins:List (Addr×Obj)) (s:qAp) (σ:St) (H:Hp) (Q:Bool->Hp->Prop),Inv X pins σ H s->t σ H Q->qBs (qCb X.prog X.w) X.A (qOq e X.env whole) (TP X pins σ Q) X.xe s
theorem PW.pt(h:PW X e t):PT X e t:=h _
def PA(X:Cx)(es:List Expr)(t:TA):Prop :=
 ∀(pos:Pos) (pins:List (Addr×Obj)) (s:qAp) (σ:St) (H:Hp) (Q:List V->Hp->Prop),Inv X pins σ H s->t σ H Q->qBs (qCb X.prog X.w) X.A (spliced (qFb pos (qBx es X.env))) (AP X pins σ Q) X.xe s
def PS(X:Cx)(st:Stmt)(t:TS):Prop :=
 ∀(pins:List (Addr×Obj)) (s:qAp) (σ:St) (H:Hp) (D:Ends),Inv X pins σ H s->t D σ H->qBs (qCb X.prog X.w) X.A (exec st X.env) (SP X pins D) X.xe s
def rG(X:Cx)(st:List Stmt)(t:TS):Prop :=
 ∀(pins:List (Addr×Obj)) (s:qAp) (σ:St) (H:Hp) (D:Ends),Inv X pins σ H s->t D σ H->qBs (qCb X.prog X.w) X.A (execs st X.env) (SP X pins D) X.xe s
theorem cA(h:qBs M A t Q E s)(hQ:∀a s,Q a s->Q' a s):qBs M A t Q' E s:=qFa h hQ fun _ _ x=>x
section
variable {X:Cx}
def tD(i:Nat):TE:=fun σ H Q=>∃v,σ[i]?=some (some v)/\Q v H
def tC(v:V):TE:=fun _ H Q=>Q v H
theorem HX(hN:X.N[i]?=some x)(hv:PM X.env.scope x)(hd:(x == ("__debug__":Str))=false:=by decide)(hcd:(x == ("__classdict__":Str))=false:=by decide):PE X (.Name x pos) (tD i):=by
 intro pins s σ H Q I h;obtain⟨v,e,h⟩:=h;obtain⟨m,hn,hl⟩:=I.loc;obtain⟨u,r,l⟩:=hl i x v hN e hv;have fin:EP X pins σ Q u s:=⟨v,H,I,r,h⟩;rcases l with ⟨hk,hm⟩ | ⟨hk,c,hc,hcell⟩
 .exact wpAny_Name (wpAny_loadName_local I.ok.kind hk hn hm fin) hd
 .rcases hk with hk | hk
  .exact wpAny_Name (wpAny_loadName_cell I.ok.kind hk hc hcell fin) hd
  .exact wpAny_Name (wpAny_loadName_free I.ok.kind hk hc hcell fin hcd) hd
theorem aE{i j pos}:PE X (.Constant (.int i) j pos) (tC (.int i)):=fun _ _ _ H _ I h=>wpAny_Constant_int ⟨.int i,H,I.tok _,⟨_,rfl⟩,h⟩
theorem gW{b j pos}:PE X (.Constant (.bool b) j pos) (tC (.bl b)):=fun _ _ _ H _ I h=>Constant_bool ⟨.bl b,H,I,rfl,h⟩
theorem aY{x j pos}:PE X (.Constant (.str x) j pos) (tC (.str x)):=fun _ _ _ H _ I h=>Calls.Constant_str ⟨.str x,H,I.tok _,⟨_,rfl⟩,h⟩
def Gl(X:Cx)(x:Str):Prop:=X.env.kindOf x=some .globalImplicit
theorem k9(I:Inv X pins σ H s)(hg:Gl X x)(hm:X.mg x=some u)(h:Q u s)
  (hd:(x == ("__debug__":Str))=false:=by decide):qBs (qCb X.prog X.w) X.A (eval (.Name x pos) X.env) Q E s :=
 qKa I.ok.kind hg (Calls.loadGlobal_global (by rw[I.ok.glob];exact I.mod.glob.keeps I.bk) hm h) hd
theorem jK(I:Inv X pins σ H s)(hg:Gl X x)(hm:X.mg x=none)(hv:qCx x=some u)(h:Q u s)
  (hn:x≠"__name__":=by decide) (hd:(x == ("__debug__":Str))=false:=by decide):qBs (qCb X.prog X.w) X.A (eval (.Name x pos) X.env) Q E s:=by
 obtain⟨mb,h1,h2⟩:=I.mod.blt;exact qKa I.ok.kind hg (Calls.loadGlobal_builtin (by rw[I.ok.glob];exact I.mod.glob.keeps I.bk) hm (by rw[I.ok.blt];exact h1.keeps I.bk) ((h2 x hn).trans hv) h) hd
theorem cB(hg:Gl X x)(hm:X.mg x=some u)(r:RelV v u)(hd:(x == ("__debug__":Str))=false:=by decide):PE X (.Name x pos) (tC v) :=
 fun _ _ _ H _ I h=>k9 I hg hm ⟨v,H,I,r,h⟩ hd
theorem gO(hg:Gl X x)(hm:X.mg x=none)(hv:qCx x=some u)(r:RelV v u)(hn:x≠"__name__":=by decide)(hd:(x == ("__debug__":Str))=false:=by decide):PE X (.Name x pos) (tC v) :=
 fun _ _ _ H _ I h=>jK I hg hm hv ⟨v,H,I,r,h⟩ hn hd
variable {a b:Expr}{ta tb:TE}{pos:Pos}
def PC(X:Cx)(op:CmpOp)(a b:Expr)(t:TE):Prop :=
 ∀(pins:List (Addr×Obj)) (s:qAp) (σ:St) (H:Hp) (Q:VK),Inv X pins σ H s->t σ H Q ->
  qBs (qCb X.prog X.w) X.A (eval a X.env) (fun v s₁=>qBs (qCb X.prog X.w) X.A (eval b X.env) (fun u s₂=>qBs (qCb X.prog X.w) X.A (qDd op v u) (EP X pins σ Q) X.xe s₂) X.xe s₁) X.xe s
def tB(t:TE):TT:=fun σ H Q=>t σ H fun x H1=>∃c,x = .bl c/\Q c H1
theorem Cd(h:PC X op a b t)(h1:qIf op b=false:=by first|exact nobehind _ #[1] #[1] | rfl):PT X (.Compare a [op] [b] pos) (tB t):=by
 intro pins s σ H Q I hw;refine wpAny_isTrue_Compare1 (cA (h pins s σ H _ I hw) fun v s1 h1=>cA h1 fun u s2 h2=>cA h2 fun c s3 z9=>?_) h1;obtain⟨x,H1,I1,r1,q1⟩:=z9;obtain⟨d,rfl,q⟩:=q1;cases r1;exact qCw ⟨H1,I1,q⟩
theorem cZ(h:PE X e t)(he:∀whole,qOq e X.env whole=(do let v <- whole;qKd e.pos;qGz [v] (truthy v)):=by intro _;rfl):PT X e (tB t):=by
 intro pins s σ H Q I hw;refine isTrue_plain (cA (h pins s σ H _ I hw) fun v s1 z9=>?_) (he _);obtain⟨x,H1,I1,r1,q1⟩:=z9;obtain⟨d,rfl,q⟩:=q1;cases r1;exact qCw ⟨H1,I1,q⟩
variable {tA tB':TT}{rest:List Expr}
def PQ(t u:TT):TT:=fun σ H Q=>t σ H fun c H1=>if c=true then u σ H1 Q else Q false H1
def RV(t u:TT):TT:=fun σ H Q=>t σ H fun c H1=>if c=true then Q true H1 else u σ H1 Q
def PU(t:TT):TT:=fun σ H Q=>t σ H fun c H1=>Q (!c) H1
theorem pw_and1(ha:PT X a tA):PW X (.BoolOp .And [a] pos) tA:=by
 intro wh pins s σ H Q I h;refine isTrue_and (cA (ha pins s σ H Q I h) fun c s1 e=>?_);cases c with
 | true=>exact isTrue_and_nil e
 | false=>exact e
theorem pw_or1(ha:PT X a tA):PW X (.BoolOp .Or [a] pos) tA:=by
 intro wh pins s σ H Q I h;refine isTrue_or (cA (ha pins s σ H Q I h) fun c s1 e=>?_);cases c with
 | false=>exact isTrue_or_nil e
 | true=>exact e
theorem pw_and(ha:PT X a tA)(hb:PW X (.BoolOp .And (b::rest) pos) tB'):PW X (.BoolOp .And (a::b::rest) pos) (PQ tA tB'):=by
 intro wh pins s σ H Q I h;refine isTrue_and (cA (ha pins s σ H _ I h) fun c s1 z9=>?_);obtain⟨H1,I1,q1⟩:=z9;cases c with
 | true=>exact hb wh pins s1 σ H1 Q I1 q1
 | false=>exact⟨H1,I1,q1⟩
theorem pw_or(ha:PT X a tA)(hb:PW X (.BoolOp .Or (b::rest) pos) tB'):PW X (.BoolOp .Or (a::b::rest) pos) (RV tA tB'):=by
 intro wh pins s σ H Q I h;refine isTrue_or (cA (ha pins s σ H _ I h) fun c s1 z9=>?_);obtain⟨H1,I1,q1⟩:=z9;cases c with
 | true=>exact⟨H1,I1,q1⟩
 | false=>exact hb wh pins s1 σ H1 Q I1 q1
theorem eK(ha:PT X a tA):PT X (.UnaryOp .Not a pos) (PU tA):=by
 intro pins s σ H Q I h;exact isTrue_not (ha pins s σ H (fun c H1=>Q (!c) H1) I h)
def Mw(ta tb:TE):TE:=fun σ H Q=>ta σ H fun x H1=>∃c,x = .bl c/\if c=true then tb σ H1 Q else Q (.bl false) H1
def My(ta:TE):TE:=fun σ H Q=>ta σ H fun x H1=>∃c,x = .bl c/\Q (.bl (!c)) H1
theorem mK{op}{t:TE}(h:PE X a t):PE X (.BoolOp op [a] pos) t:=fun pins s σ H Q I hw=>BoolOp_one (h pins s σ H Q I hw)
theorem kP(ha:PE X a ta)(hb:PE X (.BoolOp .And (b::rest) pos) tb):PE X (.BoolOp .And (a::b::rest) pos) (Mw ta tb):=by
 intro pins s σ H Q I h;refine BoolOp_and (cA (ha pins s σ H _ I h) fun v s1 z9=>?_);obtain⟨x,H1,I1,r1,q1⟩:=z9;obtain⟨c,rfl,q1⟩:=q1;cases r1;refine qCw ?_;cases c with
 | true=>exact hb pins s1 σ H1 Q I1 q1
 | false=>exact⟨.bl false,H1,I1,rfl,q1⟩
theorem xT(ha:PE X a ta):PE X (.UnaryOp .Not a pos) (My ta):=by
 intro pins s σ H Q I h;refine UnaryOp_ (cA (ha pins s σ H _ I h) fun v s1 z9=>?_);obtain⟨x,H1,I1,r1,q1⟩:=z9;obtain⟨c,rfl,q1⟩:=q1;cases r1;exact not_of (qCw ⟨.bl (!c),H1,I1,rfl,q1⟩)
def RX(t:TT)(ta tb:TE):TE:=fun σ H Q=>t σ H fun c H1=>if c=true then ta σ H1 Q else tb σ H1 Q
theorem uX(hc:PT X c tA)(ha:PE X a ta)(hb:PE X b tb):PE X (.IfExp c a b pos) (RX tA ta tb):=by
 intro pins s σ H Q I h;refine wpAny_IfExp (cA (hc pins s σ H _ I h) fun d s1 z9=>?_);obtain⟨H1,I1,q1⟩:=z9;cases d with
 | true=>exact ha pins s1 σ H1 Q I1 q1
 | false=>exact hb pins s1 σ H1 Q I1 q1
end
def aV(K:qAb)(H:Hp)(a:Addr)(xs:List V):Prop :=
 Rd H a (.lst xs) \/
  ∃(o:Obj) (its:Array qAi) (n:Nat),K.lookup a=some o/\o.cls = .type "list"/\o.dict=none/\o.data = .seq its n/\its.size<=qAg/\Vals xs its.toList
def cQ(K:qAb)(H:Hp)(a:Addr)(xs:List V):Prop :=
 Rd H a (.tup xs) \/
  ∃(o:Obj) (its:Array qAi) (n:Nat),K.lookup a=some o/\o.cls = .type "tuple"/\o.data = .seq its n/\its.size<=qAg/\Vals xs its.toList
def PV:qAi->Option V
 | .none=>some .non
 | .bool b=>some (.bl b)
 | .int i _=>some (.int i)
 | .str x _=>some (.str x)
 | .bytes b _=>some (.byt b)
 | .float b _=>some (.flt b)
 | .ref a=>some (.ref a)
 | .type n=>some (.ty n)
 | _=>none
theorem RelV.abs(r:RelV x u):PV u=some x:=by
 cases x with
 | non=>cases r;rfl
 | bl _=>cases r;rfl
 | int _=>obtain⟨t,rfl⟩:=r;rfl
 | str _=>obtain⟨t,rfl⟩:=r;rfl
 | byt _=>obtain⟨t,rfl⟩:=r;rfl
 | flt _=>obtain⟨t,rfl⟩:=r;rfl
 | ref _=>cases r;rfl
 | ty _=>cases r;rfl
theorem RelV.inj(r:RelV x u)(q:RelV y u):x=y:=Option.some.inj (r.abs.symm.trans q.abs)
theorem Vals.inj:∀{xs ys:List V}{us:List qAi},Vals xs us->Vals ys us->xs=ys
 | _,_,_,.nil,.nil=>rfl
 | _,_,_,.cons r t,.cons r' t'=>by rw[r.inj r',Vals.inj t t']
section
variable {X:Cx}{pins:List (Addr×Obj)}{σ:St}{H:Hp}{s:qAp}{a:Addr}{xs ys:List V}
theorem aV.of{K:qAb}(h:H a=some (.lst xs)):aV K H a xs:=.inl (.inl h)
theorem cQ.of{K:qAb}(h:H a=some (.tup xs)):cQ K H a xs:=.inl (.inl h)
theorem Inv.list(I:Inv X pins σ H s)(h:aV X.K H a xs):∃its:List qAi,Vals xs its/\PlainL s.heap a its.toArray/\xs.length<=qAg:=by
 rcases h with h | ⟨o,its,n,hk,hc,hd,hs,hz,r⟩
 .obtain⟨z,its,n,r,e⟩:=h.ok I.cK;exact⟨its,r,⟨_,n,e,rfl,rfl,rfl⟩,z⟩
 .refine⟨its.toList,r,⟨o,n,I.qL a o hk,hc,hd,by simpa using hs⟩,?_⟩;have e:=r.length;simp only[qCa] at e;lia
theorem Inv.tuple(I:Inv X pins σ H s)(h:cQ X.K H a xs):∃its:List qAi,Vals xs its/\qNw s.heap a its.toArray/\xs.length<=qAg:=by
 rcases h with h | ⟨o,its,n,hk,hc,hs,hz,r⟩
 .obtain⟨z,its,r,p⟩:=h.ok I.cK;exact⟨its,r,p,z⟩
 .refine⟨its.toList,r,⟨o,I.qL a o hk,hc,n,by simpa using hs⟩,?_⟩;have e:=r.length;simp only[qCa] at e;lia
theorem Inv.oX(I:Inv X pins σ H s)(h:aV X.K H a xs)(h':aV X.K H a ys):xs=ys:=by
 obtain⟨its,r,⟨o,n,e,_,_,d⟩,_⟩:=I.list h;obtain⟨its',r',⟨o',n',e',_,_,d'⟩,_⟩:=I.list h';rw[e] at e';cases e';rw[d] at d';injection d' with d1 _;have:its=its':=by simpa using congrArg qNn d1
 subst this;exact r.inj r'
theorem Inv.AI(I:Inv X pins σ H s)(h:cQ X.K H a xs)(h':cQ X.K H a ys):xs=ys:=by
 obtain⟨its,r,⟨o,e,_,n,d⟩,_⟩:=I.tuple h;obtain⟨its',r',⟨o',e',_,n',d'⟩,_⟩:=I.tuple h';rw[e] at e';cases e';rw[d] at d';injection d' with d1 _;have:its=its':=by simpa using congrArg qNn d1
 subst this;exact r.inj r'
end
abbrev Cx.qM(X:Cx)(E:qAi->qAp->Prop):Cx:={ X with xe:=E }
abbrev Cx.LL(X:Cx):Cx:=X.qM fun _ _=>False
theorem Cx.Ok.qM{X:Cx}(ok:X.Ok)(E:qAi->qAp->Prop):(X.qM E).Ok :=
 ⟨ok.mod,ok.kind,ok.glob,ok.blt,ok.above,ok.inj,ok.has,ok.Mv,ok.hd,ok.frames,ok.Pu,ok.RF,ok.bs,ok.EF,ok.AH,ok.EJ,ok.kN,ok.GA⟩
theorem Cx.Ok.jL{X:Cx}{E:qAi->qAp->Prop}(ok:(X.qM E).Ok):X.Ok :=
 ⟨ok.mod,ok.kind,ok.glob,ok.blt,ok.above,ok.inj,ok.has,ok.Mv,ok.hd,ok.frames,ok.Pu,ok.RF,ok.bs,ok.EF,ok.AH,ok.EJ,ok.kN,ok.GA⟩
section
variable {X:Cx}{pins:List (Addr×Obj)}{σ:St}{H:Hp}{s:qAp}{E:qAi->qAp->Prop}
theorem Inv.qM(I:Inv X pins σ H s)(E:qAi->qAp->Prop):Inv (X.qM E) pins σ H s:=⟨I.ok.qM E,I.os,I.bare,I.base,I.loc,I.cell,I.free,I.jG,I.pin,I.cK,I.len⟩
theorem Inv.jL(I:Inv (X.qM E) pins σ H s):Inv X pins σ H s:=⟨I.ok.jL,I.os,I.bare,I.base,I.loc,I.cell,I.free,I.jG,I.pin,I.cK,I.len⟩
theorem SP.jL(h:SP (X.qM E) pins D f s'):SP X pins D f s':=by
 cases f with
 | next=>obtain⟨σ',H',I,q⟩:=h;exact⟨σ',H',I.jL,q⟩
 | brk=>obtain⟨σ',H',I,q⟩:=h;exact⟨σ',H',I.jL,q⟩
 | cont=>obtain⟨σ',H',I,q⟩:=h;exact⟨σ',H',I.jL,q⟩
 | ret u=>obtain⟨v,σ',H',I,r,q⟩:=h;exact⟨v,σ',H',I.jL,r,q⟩
theorem rG.LL{st:List Stmt}{t:TS}(h:rG X.LL st t):rG X st t:=fun pins s σ H D I hw =>
 qFa (h pins s σ H D (I.qM _) hw) (fun _ _ q=>q.jL) fun _ _ z=>False.elim z
end
section
variable {X:Cx}{st:Stmt}{rest:List Stmt}{t u:TS}{e:Expr}{te:TE}{pos:Pos}
def bR:TS:=fun D σ H=>D.nx σ H
def HY(t u:TS):TS:=fun D σ H=>t { D with nx:=u D } σ H
theorem aZ:rG X [] bR:=fun _ _ σ H _ I h=>qGw ⟨σ,H,I,h⟩
theorem aD(h1:PS X st t)(h2:rG X rest u):rG X (st::rest) (HY t u):=by
 intro pins s σ H D I h;refine wpAny_execs_cons (cA (h1 pins s σ H { D with nx:=u D } I h) fun f s1 q=>?_);cases f with
 | next =>
  obtain⟨σ',H',I',q⟩:=q;exact h2 pins s1 σ' H' D I' q
 | ret v=>exact q
 | brk=>exact q
 | cont=>exact q
theorem aG(h1:PS X st t):rG X [st] t:=by
 intro pins s σ H D I h;refine wpAny_execs_cons (cA (h1 pins s σ H D I h) fun f s1 q=>?_);cases f with
 | next=>exact qGw q
 | ret v=>exact q
 | brk=>exact q
 | cont=>exact q
theorem Inv.quiet(I:Inv X pins σ H s):interactive X.env=false:=by simp[interactive,I.ok.kind]
def GB(te:TE):TS:=fun D σ H=>te σ H fun _ H1=>D.nx σ H1
theorem bQ(he:PE X e te)(hs:qJq e none pos.line X.env=pure false:=by rfl):PS X (.Expr e pos) (GB te):=by
 intro pins s σ H D I h;exact wpAny_Expr_any (cA (he pins s σ H _ I h) (by rintro v s1 ⟨x,H1,I1,r1,q1⟩;exact ⟨σ,H1,I1,q1⟩)) I.quiet hs
def PX(te:TE):TS:=fun D σ H=>te σ H D.rt
theorem aS(he:PE X e te):PS X (.Return (some e) pos) (PX te):=by
 intro pins s σ H D I h;exact wpAny_Return_some (cA (he pins s σ H _ I h) (by rintro v s1 ⟨x,H1,I1,r1,q1⟩;exact ⟨x,σ,H1,I1,r1,q1⟩))
def PY(c:TT)(t u:TS):TS:=fun D σ H=>c σ H fun b H1=>if b=true then t D σ H1 else u D σ H1
theorem bN(hc:PT X c tc)(ha:rG X a t)(hb:rG X b u):PS X (.If c a b pos) (PY tc t u):=by
 intro pins s σ H D I h;refine wpAny_If (cA (hc pins s σ H _ I h) fun d s1 z9=>?_);obtain⟨H1,I1,q1⟩:=z9;cases d with
 | true=>exact ha pins s1 σ H1 D I1 q1
 | false=>exact hb pins s1 σ H1 D I1 q1
end
abbrev TG:=V->St->Hp->(St->Hp->Prop)->Prop
abbrev Mz:=List V->St->Hp->(St->Hp->Prop)->Prop
def PG(X:Cx)(target:Expr)(t:TG):Prop :=
 ∀(pins:List (Addr×Obj)) (s:qAp) (σ:St) (H:Hp) (v:V) (u:qAi) (Q:St->Hp->Prop),Inv X pins σ H s->RelV v u->t v σ H Q ->
  qBs (qCb X.prog X.w) X.A (qJu target X.env u) (fun _ s'=>∃σ' H',Inv X pins σ' H' s'/\Q σ' H') X.xe s
def MB(X:Cx)(ts:List Expr)(t:Mz):Prop :=
 ∀(pins:List (Addr×Obj)) (s:qAp) (σ:St) (H:Hp) (vs:List V) (us:List qAi) (Q:St->Hp->Prop),Inv X pins σ H s->Vals vs us->t vs σ H Q ->
  qBs (qCb X.prog X.w) X.A (assignInOrder ((qIw ts X.env).map (·.2)) us) (fun _ s'=>∃σ' H',Inv X pins σ' H' s'/\Q σ' H') X.xe s
abbrev MC:=V->V->V->Hp->(Hp->Prop)->Prop
def HZ(X:Cx)(t:MC):Prop :=
 ∀(pins:List (Addr×Obj)) (s:qAp) (σ:St) (H:Hp) (o i v:V) (ov iv u:qAi) (Q:Hp->Prop),Inv X pins σ H s->RelV o ov->RelV i iv->RelV v u->t o i v H Q ->
  qBs (qCb X.prog X.w) X.A (setItem ov iv u) (fun _ s'=>∃H',Inv X pins σ H' s'/\Q H') X.xe s
abbrev RY:=V->V->Hp->VK->Prop
def RZ(X:Cx)(op:Operator)(t:RY):Prop :=
 ∀(pins:List (Addr×Obj)) (s:qAp) (σ:St) (H:Hp) (x y:V) (v u:qAi) (Q:VK),Inv X pins σ H s->RelV x v->RelV y u->t x y H Q ->
  qBs (qCb X.prog X.w) X.A (inplaceOp op v u) (EP X pins σ Q) X.xe s
section
variable {X:Cx}{pos:Pos}
def bC(i:Nat):TG:=fun v σ H Q=>Q (σ.set i (some v)) H
theorem aK(hN:X.N.Nodup)(hi:X.N[i]?=some x)(hx:Loc X.env.scope x)(hf:X.fn x=true\/X.env.scope.names.lookup x=some .local:=by first|exact .inl rfl | exact .inr rfl | assumption):PG X (.Name x pos) (bC i):=by
 intro pins s σ H v u Q I r h;exact wpAny_assign_Name (k8 I hN hi hx r (fun s' I'=>⟨_,H,I',h⟩) hf)
def qN:Mz:=fun vs σ H Q=>vs=[]/\Q σ H
def dX(t:TG)(u:Mz):Mz:=fun vs σ H Q=>∃v r,vs=v::r/\t v σ H fun σ' H'=>u r σ' H' Q
theorem dC:MB X [] qN:=by
 intro pins s σ H vs us Q I r h;obtain⟨e,h⟩:=h;subst e;cases r;exact assignInOrder_nil ⟨σ,H,I,h⟩
theorem bA(h1:PG X e t)(h2:MB X es u)
  (hs:(qIw (e::es) X.env).map (·.2)=qJu e X.env::(qIw es X.env).map (·.2):=by rfl):MB X (e::es) (dX t u):=by
 intro pins s σ H vs us Q I r h;obtain⟨v,vr,e1,h⟩:=h;subst e1;cases r with
 | cons r rr =>
  rw[hs];refine assignInOrder_cons (cA (h1 pins s σ H _ _ _ I r h) fun _ s1 z9=>?_);obtain⟨σ1,H1,I1,q1⟩:=z9;exact h2 pins s1 σ1 H1 _ _ Q I1 rr q1
def qO(K:qAb)(n:Nat)(t:Mz):TG:=fun v σ H Q=>∃a xs,v = .ref a/\cQ K H a xs/\xs.length=n/\t xs σ H Q
theorem eL(hc:X.calm=true)(h:MB X es t)
  (hn:(qIw es X.env).length=n:=by rfl) (hst:(qIw es X.env).findIdx? (·.1)=none:=by rfl):PG X (.Tuple es k pos) (qO X.K n t):=by
 intro pins s σ H v u Q I r hw;obtain⟨a,xs,e1,hq,hl,hw⟩:=hw;subst e1;cases r;obtain⟨its,rv,ht,hz⟩:=I.tuple hq;refine assign_Tuple_tuple (I.ok.hd hc) ht (by simp[hn,<- hl,rv.length]) hst fun h' hx=>?_;have I1:Inv X pins σ H { s with heap:=h' }:=I.kept (t':=s.toks) fun b o e=>hx b o (qBk (qAy e)) e;exact h pins _ σ H xs _ Q I1 (by simpa using rv) hw
def PZ(to ti:TE)(t:MC):TG:=fun v σ H Q=>to σ H fun o H1=>ti σ H1 fun i H2=>t o i v H2 fun H3=>Q σ H3
theorem Ce(ho:PE X o to)(hi:PE X i ti)(hs:HZ X t)
  (ha:∀v,qJu (.Subscript o i pos) X.env v=(do
   let ov <- qGz [v] (eval o X.env)
   let iv <- qGz [v,ov] (eval i X.env)
   qKd pos
   qGz [v,ov,iv] (setItem ov iv v)
   release [v,ov,iv] []):=by intro _;rfl):PG X (.Subscript o i pos) (PZ to ti t):=by
 intro pins s σ H v u Q I r h;rw[ha];refine qAd (qCm (cA (ho pins s σ H _ I h) fun ov s1 z9=>?_));obtain⟨x,H1,I1,r1,q1⟩:=z9;refine qAd (qCm (cA (hi pins s1 σ H1 _ I1 q1) fun iv s2 z9=>?_));obtain⟨y,H2,I2,r2,q2⟩:=z9;refine qAd (qGc (qAd (qCm (cA (hs pins s2 σ H2 x y v ov iv u _ I2 r1 r2 r q2) fun _ s3 z9=>?_))));obtain⟨H3,I3,q3⟩:=z9;exact wpAny_release ⟨σ,H3,I3,q3⟩
def Ib(te:TE)(g:TG):TS:=fun D σ H=>te σ H fun x H1=>g x σ H1 D.nx
theorem xU(he:PE X e te)(hg:PG X tg g)(hs:swapsWithSole [tg] e pos.line X.env=pure false:=by rfl)(hw:swappedStores [tg] e X.env=pure none:=by rfl)
  (h1:(qIw [tg] X.env).map (·.2)=[qJu tg X.env]:=by rfl):PS X (.Assign [tg] e pos) (Ib te g):=by
 intro pins s σ H D I h;refine wpAny_Assign_stores (cA (he pins s σ H _ I h) fun v s1 z9=>?_) hs hw;obtain⟨x,H1,I1,r1,q1⟩:=z9;rw[h1];exact cA (hg pins s1 σ H1 x v _ I1 r1 q1) fun _ s2 q=>q
theorem bB(hN:X.N.Nodup)(hi:X.N[i]?=some x)(hx:Loc X.env.scope x)(he:PE X e te)(hs:qJq e (some (.Name x pos')) pos.line X.env=pure false:=by rfl)(hf:X.fn x=true\/X.env.scope.names.lookup x=some .local:=by first|exact .inl rfl | exact .inr rfl | assumption):
  PS X (.Assign [.Name x pos'] e pos) (Ib te (bC i)):=by
 intro pins s σ H D I h;refine wpAny_Assign_Name (cA (he pins s σ H _ I h) fun v s1 z9=>?_) hs;obtain⟨y,H1,I1,r1,q1⟩:=z9;exact k8 I1 hN hi hx r1 (fun s2 I2=>⟨_,H1,I2,q1⟩) hf
def Qa(i j:Nat)(ta:TA):TS:=fun D σ H=>ta σ H fun vs H1=>∃v w,vs=[v,w]/\D.nx ((σ.set i (some v)).set j (some w)) H1
theorem Ic{kt k2 pt2}(hc:X.calm=true)(hN:X.N.Nodup)(hi:X.N[i]?=some x)(hj:X.N[j]?=some y)(hij:i≠j)
  (hx:X.env.scope.names.lookup x=some .local) (hy:X.env.scope.names.lookup y=some .local) (ha:PA X [a,b] ta)
  (hw:swappedStores [.Tuple [.Name x px,.Name y py] kt pt] (.Tuple [a,b] k2 pt2) X.env=pure (some [x,y]))
  (hs:swapsWithSole [.Tuple [.Name x px,.Name y py] kt pt] (.Tuple [a,b] k2 pt2) pos.line X.env=pure false:=by rfl) :
  PS X (.Assign [.Tuple [.Name x px,.Name y py] kt pt] (.Tuple [a,b] k2 pt2) pos) (Qa i j ta):=by
 intro pins s σ H D I h;rw[exec_Assign_arm];refine qAd (qGc ?_);rw[hs];refine qAd (qAm ?_);rw[if_neg (by decide)];refine qAd (Tuple_ (cA (ha _ pins s σ H _ I h) fun us s1 z9=>?_));obtain⟨vs,H1,I1,r1,q1⟩:=z9;obtain⟨v,w,e1,q1⟩:=q1;subst e1;obtain⟨u1,u2,rfl,rv,rw'⟩:∃u1 u2,us=[u1,u2]/\RelV v u1/\RelV w u2:=by
  cases r1 with
  | cons p q =>
   cases q with
   | cons p' q' =>
    cases q'
    exact⟨_,_,rfl,p,p'⟩
 refine qDr ?_ (kY);have I2:Inv X pins σ H1 { s1 with heap:=s1.heap.push { cls:=.type "tuple",data:=.seq [u1,u2].toArray } }:=I1.kept (t':=s1.toks) fun b o e=>qAk _ e;rw[hw];refine qAd (qAm ?_);show qBs (qCb X.prog X.w) X.A (do rule "assign.swapped-stores";let items <- unpackItems (.ref s1.heap.objs.size) 2 none;assignInOrder [fun v=>qNp X.env y v,fun v=>qNp X.env x v] items.reverse;pure Flow.next) _ _ _;refine qAd (wpAny_rule (qAd (unpackItems_tuple (items:=#[u1,u2]) (I.ok.hd hc) (IsTup.new s1.heap _) fun h' hx'=>?_)));have I3:=I2.kept (h':=h') (t':=s1.toks) fun b o e=>hx' b o (qBk (qAy e)) e;show qBs _ _ (assignInOrder [fun v=>qNp X.env y v,fun v=>qNp X.env x v] [u2,u1] >>= fun _=>pure Flow.next) _ _ _;refine qAd (assignInOrder_cons (wpAny_bindName (k8 I3 hN hj (.inl hy) rw' (fun s2 I4=>?_) (.inr hy))));refine assignInOrder_cons (wpAny_bindName (k8 I4 hN hi (.inl hx) rv (fun s3 I5=>assignInOrder_nil (qAm ?_)) (.inr hx)));rw[List.set_comm _ _ (Ne.symm hij)] at I5;exact⟨_,H1,I5,q1⟩
def Qb(X:Cx)(t:V->V->Hp->VK->Prop):Prop :=
 ∀(pins:List (Addr×Obj)) (s:qAp) (σ:St) (H:Hp) (o i:V) (ov iv:qAi) (Q:VK),Inv X pins σ H s->RelV o ov->RelV i iv->t o i H Q ->
  qBs (qCb X.prog X.w) X.A (qId ov iv) (EP X pins σ Q) X.xe s
end
section
variable {X:Cx}{pos:Pos}
def Ie(c:TT)(tb:TS):TS:=fun D σ H=>∃W:Nat->St->Hp->Prop,(∃m,W m σ H)/\∀m σ H,W m σ H ->
 c σ H fun b H1=>if b=true then ∃N:St->Hp->Prop,(∀σ' H',N σ' H'->∃m',m'<m/\W m' σ' H')/\tb { D with nx:=N,ct:=N,bk:=D.nx } σ H1 else D.nx σ H1
theorem oY(hp:PassesOwn (qCb X.prog X.w) X.A X.env X.xe)(hc:PT X c tc)(hb:rG X body tb):PS X (.While c body [] pos) (Ie tc tb):=by
 intro pins s σ H D I h;obtain⟨W,⟨m0,w0⟩,turn⟩:=h;refine wpAny_While (codeAny_whileLoop (fun n s'=>∃σ' H',Inv X pins σ' H' s'/\W n σ' H') ?_ m0 ⟨σ,H,I,w0⟩);rintro n s1 ⟨σ1,H1,I1,w1⟩;refine qFc hp (cA (hc pins s1 σ1 H1 _ I1 (turn n σ1 H1 w1)) fun b s2 z9=>?_);obtain⟨H2,I2,q2⟩:=z9;cases b with
 | true =>
  obtain⟨N,hN,q2⟩:=q2;rw[if_pos rfl];refine qFc hp (cA (hb pins s2 σ1 H2 _ I2 q2) fun f s3 q3=>?_);cases f with
  | next =>
   obtain⟨σ3,H3,I3,n3⟩:=q3;obtain⟨m',hm,w3⟩:=hN σ3 H3 n3;exact⟨m',hm,σ3,H3,I3,w3⟩
  | cont =>
   obtain⟨σ3,H3,I3,n3⟩:=q3;obtain⟨m',hm,w3⟩:=hN σ3 H3 n3;exact⟨m',hm,σ3,H3,I3,w3⟩
  | brk=>exact q3
  | ret v=>exact q3
 | false =>
  rw[if_neg qAn];exact qGw ⟨σ1,H2,I2,q2⟩
end
structure It where
 go:Nat->Hp->Prop
 tE:Nat->Hp->V->Hp->Prop
 stop:Nat->Hp->Prop
def gX(X:Cx)(pins:List (Addr×Obj))(H:Hp)(b:Addr):Prop :=
 H b=none/\b≠X.env.locals/\b∉X.fs/\(b∈X.ex\/X.s₀.heap.objs.size<=b)/\(∀x c,X.env.cells.lookup x=some c->c≠b)/\∀p∈X.pn++pins,p.1≠b
theorem Inv.qP(I:Inv X pins σ H s)(hb:s.heap.objs.size<=b)(hn:H' b=none):gX X pins H' b:=by
 refine⟨hn,qOi (qAr I.lt hb),I.HV hb,.inr (qAx I.sz hb),fun x c e z=>?_,fun p hp z=>?_⟩
 .obtain⟨v,q⟩:=I.cell x c e;exact absurd (qAr q.lt (by rw[z];exact hb)) (qEg _)
 .exact absurd (qAr (qAy (I.pin p hp).1) (by rw[z];exact hb)) (qEg _)
structure Turn (P:qBl) (w:qCr) (K:qAb) (tg:Expr) (J:It) (fp:List Addr) (it:Addr) (tn:Nat->Heap->Prop):Prop where
 mem:it∈fp
 obj:∀i h,tn i h->∀b∈fp,∃o,h.get? b=some o/\∀v,o.data≠.cell v
 keep:∀i h h',tn i h->(∀b∈fp,∀o,h.get? b=some o->h'.get? b=some o)->tn i h'
 item:∀(X:Cx),X.prog=P->X.w=w->X.K=K->X.calm=true->∀(i:Nat) (pins:List (Addr×Obj)) (s:qAp) (σ:St) (H:Hp) (E:qAi->qAp->Prop),Inv X pins σ H s->(∀b∈fp,gX X pins H b)->tn i s.heap->J.go i H ->
  qBs (qCb P w) X.A (qKn (.ref it)) (fun r s1=>∃u,r=some u /\
   qBs (qCb P w) X.A (qIq tg (.ref it) u) (fun _ s2=>∃x H',Inv X pins σ H' s2/\RelV x u/\J.tE i H x H'/\tn (i+1) s2.heap/\∀b∈fp,H' b=none) E s1) E s
 done:∀(X:Cx),X.prog=P->X.w=w->X.K=K->X.calm=true->∀(i:Nat) (pins:List (Addr×Obj)) (s:qAp) (σ:St) (H:Hp) (E:qAi->qAp->Prop),Inv X pins σ H s->(∀b∈fp,gX X pins H b)->tn i s.heap->J.stop i H ->
  qBs (qCb P w) X.A (qKn (.ref it)) (fun r s1=>r=none/\Inv X pins σ H s1) E s
 self:∀(A:qDf) (i:Nat) (s:qAp) (Q:qAi->qAp->Prop) (E:qAi->qAp->Prop),tn i s.heap->Q (.ref it) s->qBs (qCb P w) A (pyIter (.ref it)) Q E s
abbrev TI:=St->Hp->(It->Hp->Prop)->Prop
def RG(X:Cx)(pins:List (Addr×Obj))(σ:St)(tg:Expr)(R:It->Hp->Prop)(itv:qAi)(s2:qAp):Prop :=
 ∃(it:Addr) (fp:List Addr) (tn:Nat->Heap->Prop) (J:It) (H':Hp),itv = .ref it/\Inv X pins σ H' s2/\Turn X.prog X.w X.K tg J fp it tn/\tn 0 s2.heap/\(∀b∈fp,gX X pins H' b)/\R J H'
def PI(X:Cx)(tg iter:Expr)(wi:TI):Prop :=
 ∀(pins:List (Addr×Obj)) (s:qAp) (σ:St) (H:Hp) (R:It->Hp->Prop),Inv X pins σ H s->wi σ H R ->
  qBs (qCb X.prog X.w) X.A (eval iter X.env) (fun v s1=>qBs (qCb X.prog X.w) X.A (pyIter v) (RG X pins σ tg R) X.xe s1) X.xe s
theorem uY(ho:s.heap.get? it=some o)(hc:o.cls = .type n)(hd:o.data = .fields vs)
    (hn:["enumerate","zip","dict_itemiterator","dict_reverseitemiterator","odict_iterator","itertools.zip_longest","itertools.pairwise"].contains n=false) (hQ:Q () s):qBs M A (qIq tg (.ref it) u) Q E s:=by
  delta qIq
  cases tg <;> first
    | exact qAm hQ
    | (cases u <;> first
        | exact qAm hQ
        | (refine qAd (wpAny_load ho ?_)
           rw[hc,hd]
           show qBs M A (if (["enumerate","zip","dict_itemiterator","dict_reverseitemiterator","odict_iterator","itertools.zip_longest","itertools.pairwise"].contains n&&vs[0]? == some (qLb _))=true then _ else _) Q E s
           rw[if_neg (by intro h;rw[hn,qEv] at h;cases h)]
           exact qAm hQ))
def uP(K:qAb)(a:Addr):It :=
 ⟨fun i H=>∃xs x,aV K H a xs/\xs[i]?=some x,fun i H x H'=>H'=H/\∀xs,aV K H a xs->xs[i]?=some x,fun i H=>∃xs,aV K H a xs/\xs.length<=i⟩
def MD(K:qAb)(a:Addr):It :=
 ⟨fun i H=>∃xs x,cQ K H a xs/\xs[i]?=some x,fun i H x H'=>H'=H/\∀xs,cQ K H a xs->xs[i]?=some x,fun i H=>∃xs,cQ K H a xs/\xs.length<=i⟩
def xR(lo:Int)(n:Nat):It:=⟨fun i _=>i<n,fun i H x H'=>H'=H/\x = .int (lo+i),fun i _=>n<=i⟩
theorem rH{P:qBl}{w:qCr}{K:qAb}{tg:Expr}(a it:Addr):Turn P w K tg (uP K a) [it] it (fun i h=>h.IsListIter it a i) where
 mem:=by simp
 obj:=fun i h st b hb=>by
  have e:b=it:=by simpa using hb
  subst e;obtain⟨o,e,c,d⟩:=st;exact⟨o,e,fun v z=>by rw[d] at z;cases z⟩
 keep:=fun i h h' st k=>st.at fun o e=>k it (by simp) o e
 item:=by
  intro X hP hw hK hc i pins s σ H E I hf st hg;subst hP hw hK;obtain⟨xs,x,hq,hx⟩:=hg;obtain⟨its,rv,p,hz⟩:=I.list hq;obtain⟨u,hu,ru⟩:=rv.get hx;obtain⟨f0,f1,f2,f3,f4,f5⟩:=hf it (by simp);refine wpAny_pyNext_list_item st p.isList (x:=u) (by simpa using hu) fun h' st' sb=>?_;have I1:Inv X pins σ H { s with heap:=h' }:=I.turned (t':=s.toks) (fun b o hb e=>(sb.2 b hb).trans e) f0 f1 f3 f4 f5;obtain⟨o,e,c,d⟩:=id st';exact⟨u,rfl,uY (s:={ s with heap:=h' }) e c d #[1] ⟨x,H,I1,ru,⟨rfl,fun ys hy=>by rw[I.oX hy hq];exact hx⟩,st',fun b hb=>(hf b hb).1⟩⟩
 done:=by
  intro X hP hw hK hc i pins s σ H E I hf st hg;subst hP hw hK;obtain⟨xs,hq,hx⟩:=hg;obtain⟨its,rv,p,hz⟩:=I.list hq;obtain⟨f0,f1,f2,f3,f4,f5⟩:=hf it (by simp);have hl:=rv.length;exact wpAny_pyNext_list_end (I.ok.hd hc) st p.isList (by simp;lia) fun h' eb=>⟨rfl,I.turned (t':=s.toks) (fun b o hb e=>eb b o hb e) f0 f1 f3 f4 f5⟩
 self:=fun _ _ _ _ _ st h=>wpAny_pyIter_listiter st h
theorem xV{P:qBl}{w:qCr}{K:qAb}{tg:Expr}(a it:Addr):Turn P w K tg (MD K a) [it] it (fun i h=>h.IsTupleIter it a i) where
 mem:=by simp
 obj:=fun i h st b hb=>by
  have e:b=it:=by simpa using hb
  subst e;obtain⟨o,e,c,d⟩:=st;exact⟨o,e,fun v z=>by rw[d] at z;cases z⟩
 keep:=fun i h h' st k=>st.at fun o e=>k it (by simp) o e
 item:=by
  intro X hP hw hK hc i pins s σ H E I hf st hg;subst hP hw hK;obtain⟨xs,x,hq,hx⟩:=hg;obtain⟨its,rv,p,hz⟩:=I.tuple hq;obtain⟨u,hu,ru⟩:=rv.get hx;obtain⟨f0,f1,f2,f3,f4,f5⟩:=hf it (by simp);refine wpAny_pyNext_tuple_item st (show s.heap.IsTuple a its.toArray from p) (x:=u) (by simpa using hu) fun h' st' sb=>?_;have I1:Inv X pins σ H { s with heap:=h' }:=I.turned (t':=s.toks) (fun b o hb e=>(sb.2 b hb).trans e) f0 f1 f3 f4 f5;obtain⟨o,e,c,d⟩:=id st';exact⟨u,rfl,uY (s:={ s with heap:=h' }) e c d #[1] ⟨x,H,I1,ru,⟨rfl,fun ys hy=>by rw[I.AI hy hq];exact hx⟩,st',fun b hb=>(hf b hb).1⟩⟩
 done:=by
  intro X hP hw hK hc i pins s σ H E I hf st hg;subst hP hw hK;obtain⟨xs,hq,hx⟩:=hg;obtain⟨its,rv,p,hz⟩:=I.tuple hq;obtain⟨f0,f1,f2,f3,f4,f5⟩:=hf it (by simp);have hl:=rv.length;exact wpAny_pyNext_tuple_end (I.ok.hd hc) st (show s.heap.IsTuple a its.toArray from p) (by simp;lia) fun h' eb=>⟨rfl,I.turned (t':=s.toks) (fun b o hb e=>eb b o hb e) f0 f1 f3 f4 f5⟩
 self:=fun _ _ _ _ _ st h=>wpAny_pyIter_tupleiter st h
theorem xW{P:qBl}{w:qCr}{K:qAb}{tg:Expr}(it:Addr)(lo:Int)(n:Nat):Turn P w K tg (xR lo n) [it] it (fun i h=>IsRangeIter h it (lo+(i:Nat)*1) ((n:Int)-(i:Nat)) 1) where
 mem:=by simp
 obj:=fun i h st b hb=>by
  have e:b=it:=by simpa using hb
  subst e;exact⟨_,st,fun v z=>by
   have z':Data.fields _=Data.cell v:=z;cases z'⟩
 keep:=fun i h h' st k=>k it (by simp) _ st
 item:=by
  intro X hP hw hK hc i pins s σ H E I hf st hg;subst hP hw hK;obtain⟨f0,f1,f2,f3,f4,f5⟩:=hf it (by simp);have W:=Walks.range (prog:=X.prog) (w:=X.w) (I.ok.hd hc) it lo 1 n;refine W.item i s _ _ hg st fun v h' tk hv st' kk=>?_;obtain⟨t,rfl⟩:=hv;have I1:Inv X pins σ H { s with heap:=h',toks:=tk }:=I.turned (fun b o hb e=>kk b o (by simpa using hb) e) f0 f1 f3 f4 f5;refine⟨_,rfl,uY (s:={ s with heap:=h',toks:=tk }) (n:="range_iterator") st' rfl rfl #[1] ⟨.int (lo+i),H,I1,⟨t,?_⟩,⟨rfl,rfl⟩,st',fun b hb=>(hf b hb).1⟩⟩;rw[Int.mul_one]
 done:=by
  intro X hP hw hK hc i pins s σ H E I hf st hg;subst hP hw hK;obtain⟨f0,f1,f2,f3,f4,f5⟩:=hf it (by simp);exact wpAny_pyNext_range_end (I.ok.hd hc) st (by have:n<=i:=hg;lia) fun h' eb=>⟨rfl,I.turned (t':=s.toks) (fun b o hb e=>eb b o hb e) f0 f1 f3 f4 f5⟩
 self:=fun _ _ _ _ _ st h=>wpAny_pyIter_rangeiter st h
section
variable {X:Cx}{tg:Expr}
def GC(K:qAb)(tl:TE):TI:=fun σ H R=>tl σ H fun x H1=>∃a,x = .ref a/\(∃xs,aV K H1 a xs)/\R (uP K a) H1
theorem bM{l:Expr}{tl:TE}(hl:PE X l tl):PI X tg l (GC X.K tl):=by
 intro pins s σ H R I h;refine cA (hl pins s σ H _ I h) fun v s1 z9=>?_;obtain⟨x,H1,I1,r1,q1⟩:=z9;obtain⟨a,e,⟨xs,hq⟩,q⟩:=q1;subst e;cases r1;obtain⟨its,rv,p,hz⟩:=I1.list hq;refine qEa p.isList ?_;refine⟨s1.heap.objs.size,[s1.heap.objs.size],_,_,H1,rfl,I1.kept (t':=s1.toks) fun b o e=>qAk _ e,rH a _,⟨_,qAz _ rfl,rfl,rfl⟩,fun b hb=>?_,q⟩;have e:b=s1.heap.objs.size:=by simpa using hb
 subst e;exact I1.qP (qAl _) (I1.cK.fresh (qAl _))
theorem uZ{pins:List (Addr×Obj)}{σ:St}{H:Hp}{s:qAp}{R:It->Hp->Prop}{E:qAi->qAp->Prop}{lo hi:Int}{t u v:Tok}{tk:Nat}(I:Inv X pins σ H s)(h1:-(2^62)<=lo)(h2:lo<2^62)(h3:-(2^62)<=hi)(h4:hi<2^62)
  (q:R (xR lo (hi-lo).toNat) H):qBs (qCb X.prog X.w) X.A (pyIter (.ref s.heap.objs.size)) (RG X pins σ tg R) E { s with heap:=s.heap.push { cls:=.type "range",data:=.fields #[.int lo t,.int hi u,.int 1 v] },toks:=tk }:=by
 refine wpAny_pyIter_range (IsRange.new ..) (small_one h1 h2 h3 h4) ?_;have I1:Inv X pins σ H { s with heap:=s.heap.push { cls:=.type "range",data:=.fields #[.int lo t,.int hi u,.int 1 v] },toks:=tk }:=I.kept fun b o e=>qAk _ e;refine⟨(s.heap.push { cls:=.type "range",data:=.fields #[.int lo t,.int hi u,.int 1 v] }).objs.size,[(s.heap.push { cls:=.type "range",data:=.fields #[.int lo t,.int hi u,.int 1 v] }).objs.size],_,_,H,rfl,
  I1.kept (t':=tk) fun b o e=>qAk _ e,xW _ lo (hi-lo).toNat,?_,fun b hb=>?_,q⟩
 .have e1:lo+((0:Nat):Int)*1=lo:=by simp
  have e2:(((hi-lo).toNat:Nat):Int)-((0:Nat):Int)=Builtin.Range.rangeSize lo hi 1:=by rw[rangeSize_one];split <;> lia
  show IsRangeIter _ _ (lo+((0:Nat):Int)*1) ((((hi-lo).toNat:Nat):Int)-((0:Nat):Int)) 1;rw[e1,e2];exact qAz _ rfl
 .have e:b=(s.heap.push { cls:=.type "range",data:=.fields #[.int lo t,.int hi u,.int 1 v] }).objs.size:=by simpa using hb
  subst e;exact I1.qP (qAl _) (I1.cK.fresh (qAl _))
def ME(ta:TA):TI:=fun σ H R=>ta σ H fun vs H1=>∃j:Int,vs=[.int j]/\-(2^62)<=j/\j<2^62/\R (xR 0 j.toNat) H1
def MF(ta:TA):TI:=fun σ H R=>ta σ H fun vs H1=>∃i j:Int,vs=[.int i,.int j]/\(-(2^62)<=i/\i<2^62/\-(2^62)<=j/\j<2^62)/\R (xR i (j-i).toNat) H1
theorem c8{a:Expr}{ta:TA}{p pos:Pos}(hg:Gl X "range")(hm:X.mg "range"=none)(ha:PA X [a] ta)(hs:qBx [a] X.env=[(false,eval a X.env)]:=by rfl):PI X tg (.Call (.Name "range" p) [a] [] pos) (ME ta):=by
 intro pins s σ H R I h;refine Call_ (jK I hg hm boot_range (qEs (cA (ha pos pins s σ H _ I h) fun us s1 z9=>?_) hs rfl));obtain⟨vs,H1,I1,r1,q1⟩:=z9;obtain⟨j,e,q1,q2,q⟩:=q1;subst e;cases r1 with
 | cons r rr =>
  cases rr
  obtain⟨t,rfl⟩:=r;exact call_range_1 (uZ I1 (by lia) (by lia) q1 q2 (by simpa using q))
theorem j3(hg:Gl X "range")(hm:X.mg "range"=none)(ha:PA X [a,b] ta)(hs:qBx [a,b] X.env=[(false,eval a X.env),(false,eval b X.env)]:=by rfl)(hs2:qBx [b] X.env=[(false,eval b X.env)]:=by rfl):
  PI X tg (.Call (.Name "range" p) [a,b] [] pos) (MF ta):=by
 intro pins s σ H R I h;refine Call_ (jK I hg hm boot_range (qEs (cA (ha pos pins s σ H _ I h) fun us s1 z9=>?_) (by rw[hs,hs2]) (by rw[hs2];rfl)));obtain⟨vs,H1,I1,r1,q1⟩:=z9;obtain⟨i,j,e,⟨q1,q2,q3,q4⟩,q⟩:=q1;subst e;cases r1 with
 | cons r rr =>
  cases rr with
  | cons r' rr =>
   cases rr
   obtain⟨t,rfl⟩:=r;obtain⟨t',rfl⟩:=r';exact call_range_2 (uZ I1 q1 q2 q3 q4 q)
def Qc(wi:TI)(g:TG)(tb:TS):TS:=fun D σ H=>wi σ H fun J H1=>∃W:Nat->Nat->St->Hp->Prop,(∃m,W 0 m σ H1)/\∀i m σ H,W i m σ H ->
 (J.stop i H/\D.nx σ H)\/(J.go i H/\∃N:St->Hp->Prop,(∀σ' H',N σ' H'->∃m',m'<m/\W (i+1) m' σ' H')/\∀x H',J.tE i H x H'->g x σ H' fun σ2 H2=>tb { D with nx:=N,ct:=N,bk:=D.nx } σ2 H2)
def mL(fp:List Addr)(h:Heap):List (Addr×Obj):=fp.filterMap fun b=>(h.get? b).map fun o=>(b,o)
theorem gD(hb:b∈fp)(e:h.get? b=some o):(b,o)∈mL fp h:=List.mem_filterMap.mpr ⟨b,hb,by rw[e];rfl⟩
theorem AJ(hp:p∈mL fp h):p.1∈fp/\h.get? p.1=some p.2:=by
 obtain⟨b,hb,e⟩:=List.mem_filterMap.mp hp;cases q:h.get? b with
 | none=>rw[q] at e;cases e
 | some o =>
  rw[q] at e;have e':(b,o)=p:=Option.some.inj e;subst e';exact⟨hb,q⟩
theorem Inv.pinned(I:Inv X pins σ H s)(hf:∀b∈fp,gX X pins H b)(ho:∀b∈fp,∃o,s.heap.get? b=some o/\∀v,o.data≠.cell v):Inv X (pins++mL fp s.heap) σ H s :=
 I.sZ fun p hp=>(List.mem_append.mp hp).elim (fun z=>I.pin p (qAt _ z)) fun z=>by
  obtain⟨hb,e⟩:=AJ z;obtain⟨f0,f1,f2,_⟩:=hf p.1 hb;obtain⟨o,e',d⟩:=ho p.1 hb;rw[e] at e';cases e';exact⟨e,f0,f1,f2,d⟩
theorem Inv.fQ(I:Inv X (pins++pl) σ H s):Inv X pins σ H s:=I.sZ fun p hp=>I.pin p (qAt _ (qEb _ hp))
theorem dJ(hp:PassesOwn (qCb X.prog X.w) X.A X.env X.xe)(hc:X.calm=true)(hi:PI X tg iter wi)(hg:PG X tg g)(hb:rG X body tb)
  (hs:∀x,qFh iter X.env x=pure x:=by intro _;rfl):PS X (.For tg iter body [] pos) (Qc wi g tb):=by
 intro pins s σ H D I h;refine wpAny_For (cA (hi pins s σ H _ I h) fun v s1 h1=>cA h1 fun itv s2 h2=>?_) hs;obtain⟨it,fp,tn,J,H2,e,I2,T,st2,f2,W,⟨m0,w0⟩,turn⟩:=h2;subst e;have stat:∀{H':Hp},(∀b∈fp,H' b=none)->∀b∈fp,gX X pins H' b:=fun hn b hb=>⟨hn b hb,(f2 b hb).2⟩;refine codeAny_forLoop_any (fun n s'=>∃i σ' H',Inv X pins σ' H' s'/\tn i s'.heap/\(∀b∈fp,H' b=none)/\W i n σ' H') ?_ m0 ⟨0,σ,H2,I2,st2,fun b hb=>(f2 b hb).1,w0⟩;rintro n s3 ⟨i,σ3,H3,I3,st3,fr3,w3⟩;rcases turn i n σ3 H3 w3 with ⟨stop,qn⟩ | ⟨go,N,hN,step⟩
 .refine qFc hp (cA (T.done X rfl rfl rfl hc i pins s3 σ3 H3 X.xe I3 (stat fr3) st3 stop) fun r s4 z9=>?_);obtain⟨hr,I4⟩:=z9;subst hr;exact qGw ⟨σ3,H3,I4,qn⟩
 .refine qFc hp (cA (T.item X rfl rfl rfl hc i pins s3 σ3 H3 X.xe I3 (stat fr3) st3 go) fun r s4 z9=>?_);obtain⟨u,hr,h4⟩:=z9;subst hr;refine qFc hp (cA h4 fun _ s5 z9=>?_);obtain⟨x,H5,I5,r5,y5,st5,fr5⟩:=z9;have I5':=I5.pinned (stat fr5) (T.obj _ _ st5);refine qFc hp (cA (hg _ s5 σ3 H5 x u _ I5' r5 (step x H5 y5)) fun _ s6 z9=>?_);obtain⟨σ6,H6,I6,q6⟩:=z9;refine qFc hp (cA (hb _ s6 σ6 H6 _ I6 q6) fun f s7 q7=>?_);have qNg:∀{σ7:St}{H7:Hp},Inv X (pins++mL fp s5.heap) σ7 H7 s7->N σ7 H7->∃m,m<n/\∃i σ' H',Inv X pins σ' H' s7/\tn i s7.heap/\(∀b∈fp,H' b=none)/\W i m σ' H':=fun {σ7 H7} I7 n7=>by
   obtain⟨m',hm,w7⟩:=hN σ7 H7 n7;refine⟨m',hm,i+1,σ7,H7,I7.fQ,T.keep _ _ _ st5 fun b hb o e=>(I7.pin (b,o) (qAt _ (qAt _ (gD hb e)))).1,fun b hb=>?_,w7⟩;obtain⟨o,e,d⟩:=T.obj _ _ st5 b hb;exact(I7.pin (b,o) (qAt _ (qAt _ (gD hb e)))).2.1
  cases f with
  | next=>obtain⟨σ7,H7,I7,n7⟩:=q7;exact qNg I7 n7
  | cont=>obtain⟨σ7,H7,I7,n7⟩:=q7;exact qNg I7 n7
  | brk=>obtain⟨σ7,H7,I7,q7⟩:=q7;exact⟨σ7,H7,I7.fQ,q7⟩
  | ret v=>obtain⟨x7,σ7,H7,I7,r7,q7⟩:=q7;exact⟨x7,σ7,H7,I7.fQ,r7,q7⟩
end
theorem fR{K:qAb}{a:Addr}{xs:List V}{g:TG}{tb:TS}{D:Ends}{σ:St}{H:Hp}(Pv:Nat->St->Hp->Prop)(h0:Pv 0 σ H)(hl:∀i σ H,i<=xs.length->Pv i σ H->aV K H a xs)
  (hs:∀i x σ H,xs[i]?=some x->Pv i σ H->g x σ H fun σ2 H2=>tb { D with nx:=Pv (i+1),ct:=Pv (i+1),bk:=D.nx } σ2 H2) (hd:∀σ H,Pv xs.length σ H->D.nx σ H) :
  ∃W:Nat->Nat->St->Hp->Prop,(∃m,W 0 m σ H)/\∀i m σ H,W i m σ H ->
   ((uP K a).stop i H/\D.nx σ H)\/((uP K a).go i H/\∃N:St->Hp->Prop,(∀σ' H',N σ' H'->∃m',m'<m/\W (i+1) m' σ' H')/\∀x H',(uP K a).tE i H x H'->g x σ H' fun σ2 H2=>tb { D with nx:=N,ct:=N,bk:=D.nx } σ2 H2):=by
 refine⟨fun i m σ H=>m=xs.length-i/\i<=xs.length/\Pv i σ H,⟨xs.length,by simp,qBf _,h0⟩,?_⟩;rintro i m σ H ⟨rfl,hi,p⟩;have q:=hl i σ H hi p;by_cases hlt:i<xs.length
 .refine .inr ⟨⟨xs,xs[i],q,by simp[hlt]⟩,Pv (i+1),fun σ' H' p'=>⟨xs.length-(i+1),by lia,rfl,hlt,p'⟩,fun x H' y=>?_⟩;obtain⟨e,y⟩:=y;subst e;exact hs i x σ _ (y xs q) p
 .have e:i=xs.length:=by lia
  subst e;exact .inl ⟨⟨xs,q,qAl _⟩,hd σ H p⟩
theorem eC{lo:Int}{n:Nat}{g:TG}{tb:TS}{D:Ends}{σ:St}{H:Hp}(Pv:Nat->St->Hp->Prop)(h0:Pv 0 σ H)
  (hs:∀i σ H,i<n->Pv i σ H->g (.int (lo+i)) σ H fun σ2 H2=>tb { D with nx:=Pv (i+1),ct:=Pv (i+1),bk:=D.nx } σ2 H2) (hd:∀σ H,Pv n σ H->D.nx σ H) :
  ∃W:Nat->Nat->St->Hp->Prop,(∃m,W 0 m σ H)/\∀i m σ H,W i m σ H ->
   ((xR lo n).stop i H/\D.nx σ H)\/((xR lo n).go i H/\∃N:St->Hp->Prop,(∀σ' H',N σ' H'->∃m',m'<m/\W (i+1) m' σ' H')/\∀x H',(xR lo n).tE i H x H'->g x σ H' fun σ2 H2=>tb { D with nx:=N,ct:=N,bk:=D.nx } σ2 H2):=by
 refine⟨fun i m σ H=>m=n-i/\i<=n/\Pv i σ H,⟨n,by simp,qBf _,h0⟩,?_⟩;rintro i m σ H ⟨rfl,hi,p⟩;by_cases hlt:i<n
 .refine .inr ⟨hlt,Pv (i+1),fun σ' H' p'=>⟨n-(i+1),by lia,rfl,hlt,p'⟩,fun x H' y=>?_⟩;obtain⟨e,y⟩:=y;subst e y;exact hs i σ _ hlt p
 .have e:i=n:=by lia
  subst e;exact .inl ⟨qAl _,hd σ H p⟩
abbrev R2:=V->V->Hp->VK->Prop
def hU(X:Cx)(f:qAi->qAi->Sem qAi)(r:R2):Prop :=
 ∀(pins:List (Addr×Obj)) (s:qAp) (σ:St) (H:Hp) (x y:V) (v u:qAi) (Q:VK),Inv X pins σ H s->RelV x v->RelV y u->r x y H Q ->
  qBs (qCb X.prog X.w) X.A (f v u) (EP X pins σ Q) X.xe s
def Px(X:Cx)(f:qAi->Sem qAi)(r:V->Hp->VK->Prop):Prop :=
 ∀(pins:List (Addr×Obj)) (s:qAp) (σ:St) (H:Hp) (x:V) (v:qAi) (Q:VK),Inv X pins σ H s->RelV x v->r x H Q ->
  qBs (qCb X.prog X.w) X.A (f v) (EP X pins σ Q) X.xe s
def eZ(X:Cx)(f:qAi)(r:List V->Hp->VK->Prop):Prop :=
 ∀(pins:List (Addr×Obj)) (s:qAp) (σ:St) (H:Hp) (xs:List V) (us:List qAi) (Q:VK),Inv X pins σ H s->Vals xs us->r xs H Q ->
  qBs (qCb X.prog X.w) X.A (call f us) (EP X pins σ Q) X.xe s
def LM(r:R2)(ta tb:TE):TE:=fun σ H Q=>ta σ H fun x H1=>tb σ H1 fun y H2=>r x y H2 Q
def Sa(r:V->Hp->VK->Prop)(ta:TE):TE:=fun σ H Q=>ta σ H fun x H1=>r x H1 Q
def rI(C:Int->Int->Prop)(g:Int->Int->V):R2:=fun x y H Q=>∃i j,x = .int i/\y = .int j/\C i j/\Q (g i j) H
def Cf(g:Int->Int->V):R2:=fun x y H Q=>∃i j,x = .int i/\y = .int j/\Q (g i j) H
def rU(g:Int->V):V->Hp->VK->Prop:=fun x H Q=>∃i,x = .int i/\Q (g i) H
section
variable {X:Cx}{a b c:Expr}{ta tb tc:TE}{pos:Pos}
theorem Ig(ha:PE X a ta)(hb:PE X b tb){pins:List (Addr×Obj)}{s:qAp}{σ:St}{H:Hp}{R:V->V->Hp->Prop}(I:Inv X pins σ H s)
  (h:ta σ H fun x H1=>tb σ H1 fun y H2=>R x y H2){Q:qAi->qAp->Prop}{f:qAi->qAi->Sem qAi}
  (hf:∀v u s2 x y H2,Inv X pins σ H2 s2->RelV x v->RelV y u->R x y H2->qBs (qCb X.prog X.w) X.A (f v u) Q X.xe s2) :
  qBs (qCb X.prog X.w) X.A (eval a X.env) (fun v s₁=>qBs (qCb X.prog X.w) X.A (eval b X.env) (fun u s₂=>qBs (qCb X.prog X.w) X.A (f v u) Q X.xe s₂) X.xe s₁) X.xe s:=by
 refine cA (ha pins s σ H _ I h) fun v s1 z9=>?_;obtain⟨x,H1,I1,r1,q1⟩:=z9;refine cA (hb pins s1 σ H1 _ I1 q1) fun u s2 z9=>?_;obtain⟨y,H2,I2,r2,q2⟩:=z9;exact hf v u s2 x y H2 I2 r1 r2 q2
theorem aL(ho:hU X (qEu op) r)(ha:PE X a ta)(hb:PE X b tb):PE X (.BinOp a op b pos) (LM r ta tb):=by
 intro pins s σ H Q I h;exact wpAny_BinOp (Ig ha hb I h fun v u s2 x y H2 I2 rx ry q=>ho pins s2 σ H2 x y v u Q I2 rx ry q)
theorem MG(ho:Px X (unaryOp op) r)(ha:PE X a ta):PE X (.UnaryOp op a pos) (Sa r ta):=by
 intro pins s σ H Q I h;exact UnaryOp_ (cA (ha pins s σ H _ I h) (by rintro v s1 ⟨x,H1,I1,r1,q1⟩;exact ho pins s1 σ H1 x v Q I1 r1 q1))
theorem GD{f:qAi->qAi->Sem qAi}{C:Int->Int->Prop}{g:Int->Int->Int}
  (rule:∀(i j:Int) (t u:Tok) (s:qAp) (Q:qAi->qAp->Prop) (E:qAi->qAp->Prop),C i j->Q (.int (g i j) s.toks) { s with toks:=s.toks+1 }->qBs (qCb X.prog X.w) X.A (f (.int i t) (.int j u)) Q E s) :
  hU X f (rI C fun i j=>.int (g i j)):=by
 intro pins s σ H x y v u Q I rx ry h;obtain⟨i,j,rfl,rfl,hc,q⟩:=h;obtain⟨t,rfl⟩:=rx;obtain⟨t',rfl⟩:=ry;exact rule i j t t' s _ _ hc ⟨.int (g i j),H,I.tok _,⟨_,rfl⟩,q⟩
theorem EK{f:qAi->qAi->Sem qAi}{g:Int->Int->Int}
  (rule:∀(i j:Int) (t u:Tok) (s:qAp) (Q:qAi->qAp->Prop) (E:qAi->qAp->Prop),Q (.int (g i j) s.toks) { s with toks:=s.toks+1 }->qBs (qCb X.prog X.w) X.A (f (.int i t) (.int j u)) Q E s) :
  hU X f (Cf fun i j=>.int (g i j)):=by
 intro pins s σ H x y v u Q I rx ry h;obtain⟨i,j,rfl,rfl,q⟩:=h;obtain⟨t,rfl⟩:=rx;obtain⟨t',rfl⟩:=ry;exact rule i j t t' s _ _ ⟨.int (g i j),H,I.tok _,⟨_,rfl⟩,q⟩
theorem EL{f:qAi->qAi->Sem qAi}{g:Int->Int->Bool}
  (rule:∀(i j:Int) (t u:Tok) (s:qAp) (Q:qAi->qAp->Prop) (E:qAi->qAp->Prop),Q (.bool (g i j)) s->qBs (qCb X.prog X.w) X.A (f (.int i t) (.int j u)) Q E s) :
  hU X f (Cf fun i j=>.bl (g i j)):=by
 intro pins s σ H x y v u Q I rx ry h;obtain⟨i,j,rfl,rfl,q⟩:=h;obtain⟨t,rfl⟩:=rx;obtain⟨t',rfl⟩:=ry;exact rule i j t t' s _ _ ⟨.bl (g i j),H,I,rfl,q⟩
def Qd(i j:Int):Prop:=0<j/\j<1073741824
def MH(i j:Int):Prop:=0<=j/\j<=1000000/\i.natAbs<2^64
def EM(i j:Int):Prop:=(-(2^64)<i/\i<2^64)\/(-(2^64)<j/\j<2^64)
theorem EM.ok(h:EM i j):IntMulOk i j:=by
 rcases h with ⟨h1,h2⟩ | ⟨h1,h2⟩
 .exact .of_left (intBits_le_64 h1 h2)
 .exact .of_right (intBits_le_64 h1 h2)
theorem xX(k:Nat):(0:Int)<=2^k:=by
 rw[two_pow_cast];exact qDu _
theorem cR:hU X (qEu .Add) (Cf fun i j=>.int (i+j)):=EK fun _ _ _ _ _ _ _ q=>add_int q
theorem eW:hU X (qEu .Sub) (Cf fun i j=>.int (i-j)):=EK fun _ _ _ _ _ _ _ q=>sub_int q
theorem kQ:hU X (qEu .Mult) (rI EM fun i j=>.int (i*j)):=GD fun _ _ _ _ _ _ _ hc q=>mul_int q hc.ok
theorem iY:hU X (qEu .FloorDiv) (rI Qd fun i j=>.int (i/j)):=GD fun i j _ _ _ _ _ hc q=>by
 have h1:(0:Int)<j:=hc.1;have h2:j<1073741824:=hc.2;exact floordiv_int (by lia) (by rw[qKm i (by lia)];exact q) (.inl (PyProof.noPylong_small (by lia)))
theorem dM:hU X (qEu .Mod) (rI (fun _ j=>0<j) fun i j=>.int (i%j)):=GD fun i j _ _ _ _ _ hc q=>by
 have h1:(0:Int)<j:=hc;exact mod_int' (by lia) (by rw[Int.fmod_eq_emod_of_nonneg i (by lia)];exact q)
theorem xY:hU X (qEu .Pow) (rI MH fun i j=>.int (i^j.toNat)):=GD fun _ _ _ _ _ _ _ hc q=>pow_int_small hc.1 hc.2.1 hc.2.2 q
theorem oZ:hU X (qEu .LShift) (rI MH fun i j=>.int (i*2^j.toNat)):=GD fun _ _ _ _ _ _ _ hc q=>lshift_int_small hc.1 hc.2.1 hc.2.2 q
theorem iB:hU X (qEu .RShift) (rI (fun _ j=>0<=j) fun i j=>.int (i/2^j.toNat)):=GD fun i j _ _ _ _ _ hc q =>
 rshift_int hc (by rw[qKm i (xX _)];exact q)
theorem fG:hU X (qEu .BitAnd) (Cf fun i j=>.int (qBm i j)):=EK fun _ _ _ _ _ _ _ q=>and_int q
theorem vA:hU X (qEu .BitOr) (Cf fun i j=>.int (qCq i j)):=EK fun _ _ _ _ _ _ _ q=>or_int q
theorem Sb{f:qAi->Sem qAi}{g:Int->Int}
  (rule:∀(i:Int) (t:Tok) (s:qAp) (Q:qAi->qAp->Prop) (E:qAi->qAp->Prop),Q (.int (g i) s.toks) { s with toks:=s.toks+1 }->qBs (qCb X.prog X.w) X.A (f (.int i t)) Q E s) :
  Px X f (rU fun i=>.int (g i)):=by
 intro pins s σ H x v Q I rx h;obtain⟨i,rfl,q⟩:=h;obtain⟨t,rfl⟩:=rx;exact rule i t s _ _ ⟨.int (g i),H,I.tok _,⟨_,rfl⟩,q⟩
theorem Ih:Px X (unaryOp .USub) (rU fun i=>.int (-i)):=Sb fun _ _ _ _ _ q=>neg_int q
end
def MJ:V->V->Bool
 | .non,.non=>true | .non,.int _=>true | .int _,.non=>true | .non,.bl _=>true | .bl _,.non=>true | .non,.str _=>true | .str _,.non=>true
 | .int _,.int _=>true | .bl _,.bl _=>true | .str _,.str _=>true | .byt _,.byt _=>true
 | .int _,.str _=>true | .str _,.int _=>true | .bl _,.str _=>true | .str _,.bl _=>true
 | _,_=>false
def Sd:R2:=fun x y H Q=>MJ x y=true/\Q (.bl (decide (x=y))) H
def RH:R2:=fun x y H Q=>MJ x y=true/\Q (.bl (!decide (x=y))) H
theorem zP:decide (V.int i=V.int j)=(i == j):=by
 rw[qEz];simp
theorem Cg:decide (V.bl i=V.bl j)=(i == j):=by
 rw[qEz];simp
theorem zQ:decide (V.str i=V.str j)=(i == j):=by
 rw[qEz];simp
theorem zR:decide (V.byt i=V.byt j)=(i.toList == j.toList):=by
 rw[qEz];cases i;cases j;simp
section
variable {X:Cx}{a b c:Expr}{ta tb tc:TE}{pos:Pos}
theorem cD(I:Inv X pins σ H s)(q:Q (.bl k) H)(e:k=k'):EP X pins σ Q (.bool k') s:=by
 subst e;exact⟨.bl k,H,I,rfl,q⟩
theorem bU:hU X (qDd .Eq) Sd:=by
 intro pins s σ H x y v u Q I rx ry h;obtain⟨hs,q⟩:=h;cases x with
 | non =>
  cases rx
  cases y with
  | non=>cases ry;exact PySem.EqNone.eq_none_none (cD I q (by simp))
  | bl j=>cases ry;exact PySem.EqNone.eq_none_bool (cD I q (by simp))
  | int j=>obtain⟨t',rfl⟩:=ry;exact PySem.EqNone.eq_none_int (cD I q (by simp))
  | str j=>obtain⟨t',rfl⟩:=ry;exact PySem.EqNone.eq_none_str (cD I q (by simp))
  | _=>exact absurd (show false=true from hs) qAn
 | bl i =>
  cases rx
  cases y with
  | non=>cases ry;exact PySem.EqNone.eq_bool_none (cD I q (by simp))
  | bl j=>cases ry;exact eq_bool (cD I q Cg)
  | str j=>obtain⟨t',rfl⟩:=ry;exact PySem.EqMixed.eq_bool_str (cD I q (by simp))
  | _=>exact absurd (show false=true from hs) qAn
 | int i =>
  obtain⟨t,rfl⟩:=rx;cases y with
  | non=>cases ry;exact PySem.EqNone.eq_int_none (cD I q (by simp))
  | int j=>obtain⟨t',rfl⟩:=ry;exact eq_int (cD I q zP)
  | str j=>obtain⟨t',rfl⟩:=ry;exact PySem.EqMixed.eq_int_str (cD I q (by simp))
  | _=>exact absurd (show false=true from hs) qAn
 | str i =>
  obtain⟨t,rfl⟩:=rx;cases y with
  | non=>cases ry;exact PySem.EqNone.eq_str_none (cD I q (by simp))
  | bl j=>cases ry;exact PySem.EqMixed.eq_str_bool (cD I q (by simp))
  | int j=>obtain⟨t',rfl⟩:=ry;exact PySem.EqMixed.eq_str_int (cD I q (by simp))
  | str j=>obtain⟨t',rfl⟩:=ry;exact eq_str (cD I q zQ)
  | _=>exact absurd (show false=true from hs) qAn
 | byt i =>
  obtain⟨t,rfl⟩:=rx;cases y with
  | byt j=>obtain⟨t',rfl⟩:=ry;exact PySem.W.eq_bytes (cD I q zR)
  | _=>exact absurd (show false=true from hs) qAn
 | _=>cases y <;> exact absurd (show false=true from hs) qAn
theorem hV:hU X (qDd .NotEq) RH:=by
 intro pins s σ H x y v u Q I rx ry h;obtain⟨hs,q⟩:=h;cases x with
 | non =>
  cases rx
  cases y with
  | non=>cases ry;exact PySem.EqNone.ne_none_none (cD I q (by simp))
  | bl j=>cases ry;exact PySem.EqNone.ne_none_bool (cD I q (by simp))
  | int j=>obtain⟨t',rfl⟩:=ry;exact PySem.EqNone.ne_none_int (cD I q (by simp))
  | str j=>obtain⟨t',rfl⟩:=ry;exact PySem.EqNone.ne_none_str (cD I q (by simp))
  | _=>exact absurd (show false=true from hs) qAn
 | bl i =>
  cases rx
  cases y with
  | non=>cases ry;exact PySem.EqNone.ne_bool_none (cD I q (by simp))
  | bl j=>cases ry;exact ne_bool (cD I q (congrArg not Cg))
  | str j=>obtain⟨t',rfl⟩:=ry;exact PySem.EqMixed.ne_bool_str (cD I q (by simp))
  | _=>exact absurd (show false=true from hs) qAn
 | int i =>
  obtain⟨t,rfl⟩:=rx;cases y with
  | non=>cases ry;exact PySem.EqNone.ne_int_none (cD I q (by simp))
  | int j=>obtain⟨t',rfl⟩:=ry;exact ne_int (cD I q (congrArg not zP))
  | str j=>obtain⟨t',rfl⟩:=ry;exact PySem.EqMixed.ne_int_str (cD I q (by simp))
  | _=>exact absurd (show false=true from hs) qAn
 | str i =>
  obtain⟨t,rfl⟩:=rx;cases y with
  | non=>cases ry;exact PySem.EqNone.ne_str_none (cD I q (by simp))
  | bl j=>cases ry;exact PySem.EqMixed.ne_str_bool (cD I q (by simp))
  | int j=>obtain⟨t',rfl⟩:=ry;exact PySem.EqMixed.ne_str_int (cD I q (by simp))
  | str j=>obtain⟨t',rfl⟩:=ry;exact ne_str (cD I q (congrArg not zQ))
  | _=>exact absurd (show false=true from hs) qAn
 | byt i =>
  obtain⟨t,rfl⟩:=rx;cases y with
  | byt j=>obtain⟨t',rfl⟩:=ry;exact PySem.W.ne_bytes (cD I q (congrArg not zR))
  | _=>exact absurd (show false=true from hs) qAn
 | _=>cases y <;> exact absurd (show false=true from hs) qAn
theorem jM:hU X (qDd .Lt) (Cf fun i j=>.bl (decide (i<j))):=EL fun _ _ _ _ _ _ _ q=>lt_int q
theorem vB:hU X (qDd .LtE) (Cf fun i j=>.bl (decide (i<=j))):=EL fun _ _ _ _ _ _ _ q=>le_int q
theorem vC:hU X (qDd .Gt) (Cf fun i j=>.bl (decide (j<i))):=EL fun _ _ _ _ _ _ _ q=>gt_int q
theorem Ci:hU X (qDd .GtE) (Cf fun i j=>.bl (decide (j<=i))):=EL fun _ _ _ _ _ _ _ q=>ge_int q
theorem AK:hU X (qDd .In) (fun x y H Q=>∃i j,x = .str i/\y = .str j/\Q (.bl (!(Builtin.Str.occurrences j i 0 j.length 1).isEmpty)) H):=by
 intro pins s σ H x y v u Q I rx ry h;obtain⟨i,j,rfl,rfl,q⟩:=h;obtain⟨t,rfl⟩:=rx;obtain⟨t',rfl⟩:=ry;exact in_str (cD I q rfl)
theorem aT(b:Expr){op:CmpOp}(h:op≠.In:=by decide)(h2:op≠.NotIn:=by decide):qIf op b=false:=by
 have e1:(op == CmpOp.In)=false:=by cases op <;> first | rfl | exact absurd rfl h
 have e2:(op == CmpOp.NotIn)=false:=by cases op <;> first | rfl | exact absurd rfl h2
 cases b <;> simp[qIf,e1,e2]
theorem dD(ho:hU X (qDd op) r)(ha:PE X a ta)(hb:PE X b tb)(hm:qIf op b=false):PE X (.Compare a [op] [b] pos) (LM r ta tb):=by
 intro pins s σ H Q I h;exact wpAny_Compare1 (Ig ha hb I h fun v u s2 x y H2 I2 rx ry q=>ho pins s2 σ H2 x y v u Q I2 rx ry q) hm
def GF(t:TE):TT:=fun σ H Q=>t σ H fun x H'=>∃k,x = .bl k/\Q k H'
theorem aP(ho:hU X (qDd op) r)(ha:PE X a ta)(hb:PE X b tb)(hm:qIf op b=false):PT X (.Compare a [op] [b] pos) (GF (LM r ta tb)):=by
 intro pins s σ H Q I h;refine wpAny_isTrue_Compare1 (cA (ha pins s σ H _ I h) fun v s1 ⟨x,H1,I1,r1,q1⟩=>cA (hb pins s1 σ H1 _ I1 q1) fun u s2 ⟨y,H2,I2,r2,q2⟩ =>
  cA (ho pins s2 σ H2 x y v u _ I2 r1 r2 q2) fun c s3 z9=>?_) hm;obtain⟨z,H3,I3,r3,k,e,q3⟩:=z9
 subst e;cases r3;exact qCw ⟨H3,I3,q3⟩
def Cj(r r':R2)(ta tb tc:TE):TE:=fun σ H Q=>ta σ H fun x H1=>tb σ H1 fun y H2=>r x y H2 fun z H3=>∃k,z = .bl k /\
 (if k=true then tc σ H3 fun w' H4=>r' y w' H4 Q else Q (.bl false) H3)
theorem Ck(ho:hU X (qDd op) r)(ho':hU X (qDd op') r')(ha:PE X a ta)(hb:PE X b tb)(hc:PE X c tc)
  (hm:lastMarks [op,op'] [b,c]=false:=by with_unfolding_all rfl):PE X (.Compare a [op,op'] [b,c] pos) (Cj r r' ta tb tc):=by
 intro pins s σ H Q I h;refine Compare_chain (cA (ha pins s σ H _ I h) fun v s1 ⟨x,H1,I1,r1,q1⟩=>chain_link (cA (hb pins s1 σ H1 _ I1 q1) fun u s2 ⟨y,H2,I2,r2,q2⟩ =>
  cA (ho pins s2 σ H2 x y v u _ I2 r1 r2 q2) fun d s3 z9=>?_)) hm;obtain⟨z,H3,I3,r3,k,e,q3⟩:=z9
 subst e;cases r3;refine qCw ?_;cases k with
 | false=>exact ite_ff ⟨.bl false,H3,I3,rfl,q3⟩
 | true=>exact ite_tt (chain_last (cA (hc pins s3 σ H3 _ I3 q3) (by rintro w' s4 ⟨z',H4,I4,r4,q4⟩;exact ho' pins s4 σ H4 y z' u w' Q I4 r2 r4 q4)))
theorem Cm(ho:hU X (qDd op) r)(ho':hU X (qDd op') r')(ha:PE X a ta)(hb:PE X b tb)(hc:PE X c tc)
  (hm:lastMarks [op,op'] [b,c]=false:=by with_unfolding_all rfl):PT X (.Compare a [op,op'] [b,c] pos) (GF (Cj r r' ta tb tc)):=by
 intro pins s σ H Q I h;refine isTrue_chain (cA (ha pins s σ H _ I h) fun v s1 ⟨x,H1,I1,r1,q1⟩=>test_link (cA (hb pins s1 σ H1 _ I1 q1) fun u s2 ⟨y,H2,I2,r2,q2⟩ =>
  cA (ho pins s2 σ H2 x y v u _ I2 r1 r2 q2) fun d s3 z9=>?_)) hm;obtain⟨z,H3,I3,r3,k,e,q3⟩:=z9
 subst e;cases r3;refine qCw ?_;cases k with
 | false =>
  obtain⟨k',e',q'⟩:=q3;cases e';exact ite_ff ⟨H3,I3,q'⟩
 | true =>
  refine ite_tt (test_last (cA (hc pins s3 σ H3 _ I3 q3) fun w' s4 ⟨z',H4,I4,r4,q4⟩=>cA (ho' pins s4 σ H4 y z' u w' _ I4 r2 r4 q4) fun d' s5 z9=>?_));obtain⟨z2,H5,I5,r5,k2,e2,q5⟩:=z9;subst e2;cases r5;exact qCw ⟨H5,I5,q5⟩
theorem mM:(qAg:Nat)<2^63:=by rw[qFw];decide
theorem xZ:hU X (qEu .Add) (fun x y H Q=>∃i j,x = .str i/\y = .str j/\i.length+j.length<=qAg/\Q (.str (i++j)) H):=by
 intro pins s σ H x y v u Q I rx ry h;obtain⟨i,j,rfl,rfl,hz,q⟩:=h;obtain⟨t,rfl⟩:=rx;obtain⟨t',rfl⟩:=ry;exact add_str (fun t' tk=>⟨.str (i++j),H,I.tok _,⟨_,rfl⟩,q⟩) hz
theorem vals1(r:Vals [x] us):∃u,us=[u]/\RelV x u:=by
 cases r with
 | cons r1 r2=>cases r2;exact⟨_,rfl,r1⟩
theorem vals2(r:Vals [x,y] us):∃u w',us=[u,w']/\RelV x u/\RelV y w':=by
 cases r with
 | cons r1 r2 =>
  cases r2 with
  | cons r3 r4=>cases r4;exact⟨_,_,rfl,r1,r3⟩
theorem lA:eZ X (.builtin "abs") (fun xs H Q=>∃i,xs=[.int i]/\Q (.int (if i<0 then -i else i)) H):=by
 intro pins s σ H xs us Q I r h;obtain⟨i,rfl,q⟩:=h;obtain⟨u,rfl,t,rfl⟩:=vals1 r;exact call_abs_int fun u tk=>⟨.int (if i<0 then -i else i),H,I.tok _,⟨_,rfl⟩,q⟩
theorem mO(hc:X.calm=true):eZ X (.builtin "max") (fun xs H Q=>∃i j,xs=[.int i,.int j]/\Q (.int (if j>i then j else i)) H):=by
 intro pins s σ H xs us Q I r h;obtain⟨i,j,rfl,q⟩:=h;obtain⟨u,w',rfl,⟨t,rfl⟩,⟨t',rfl⟩⟩:=vals2 r;refine max_two_ints (I.ok.hd hc) fun h' tk k=>⟨_,H,I.kept k,?_,q⟩;by_cases hj:j>i
 .rw[if_pos hj,if_pos hj];exact⟨_,rfl⟩
 .rw[if_neg hj,if_neg hj];exact⟨_,rfl⟩
theorem gE:eZ X (.type "int") (fun xs H Q=>(∃i,xs=[.int i]/\Q (.int i) H)\/∃k,xs=[.bl k]/\Q (.int (if k then 1 else 0)) H):=by
 intro pins s σ H xs us Q I r h;rcases h with ⟨i,rfl,q⟩ | ⟨k,rfl,q⟩
 .obtain⟨u,rfl,t,rfl⟩:=vals1 r;exact call_int_int ⟨.int i,H,I,⟨_,rfl⟩,q⟩
 .obtain⟨u,rfl,r1⟩:=vals1 r;cases r1;exact call_int_bool ⟨.int (if k then 1 else 0),H,I.tok _,⟨_,rfl⟩,q⟩
theorem iZ:eZ X (.type "str") (fun xs H Q=>∃i,xs=[.int i]/\i.natAbs.log2<1920/\Q (.str (toString i)) H):=by
 intro pins s σ H xs us Q I r h;obtain⟨i,rfl,hz,q⟩:=h;obtain⟨u,rfl,t,rfl⟩:=vals1 r;exact PySem.P.str_of_int hz ⟨.str _,H,I.tok _,⟨_,rfl⟩,q⟩
end
structure yA (h:Heap) (x dx C:Addr) (mA:Str->Option qAi):Prop where
 obj:h.get? x=some (qEf C dx)
 ns:h.Ns1 dx mA
 ne:dx≠x
theorem AM{h:Heap}{dx:Addr}{mA:Str->Option qAi}(n:h.Ns1 dx mA):∃od,h.get? dx=some od/\∀name,qHt name od=some (mA name):=by
 obtain⟨o,es,ep,ho,hd,hk,_,hm⟩:=n;refine⟨o,ho,fun name=>?_⟩;have e:=hm name;unfold nsFind findBy at e;rw[<- Array.find?_toList] at e;unfold qHt;rw[hd];dsimp only;split
 .rename_i y q;rw[q] at e;exact congrArg some e
 .rename_i q;rw[q] at e;have a:es.toList.any (·.refKey)=false:=by
   rw[List.any_eq_false];intro y hy;obtain⟨z,t,hkey⟩:=hk y (Array.mem_toList_iff.mp hy);simp[DictEntry.refKey,hkey]
  have a':¬es.toList.any (·.refKey)=true:=by rw[a];exact qAn
  rw[if_neg a'];exact congrArg some e
theorem yA.look(I:yA h x dx C mA):∃od,PySem.W.InstAt h x (qEf C dx) C (some od)/\∀name,qHt name od=some (mA name) :=
 let ⟨od,ho,hl⟩:=AM I.ns
 ⟨od,⟨I.obj,rfl,rfl,ho⟩,hl⟩
section
variable {prog:qBl}{w:qCr}{A:qDf}{E:qAi->qAp->Prop}{s:qAp}{K:qAb}{x dx C f:Addr}{mA:Str->Option qAi}{name:Str}{v:qAi}
theorem get_map(X:K.In s.heap)(I:yA s.heap x dx C mA)(hg:qDj K C name=true)(hh:qDl K C=true)
  (ha:qAe K (.ref C) name=some none) (hv:mA name=some v) (hv':qLo v=true) (h:Q v { s with toks:=s.toks+1 }) :
  qBs (qCb prog w) A (getAttr (.ref x) name expr) Q E s:=by
 obtain⟨od,J,hl⟩:=I.look;exact PySem.W.get_value X J (qIa hg).1 (PySem.W.findObj_own hh ha rfl (by rw[hl,hv])) hv' h
theorem Co(X:K.In s.heap)(I:yA s.heap x dx C mA)(hg:qDj K C name=true)
  (hf:qAe K (.ref C) name=some (some (.ref f))) (ht:qBr K (.ref f)=true) (hv:mA name=none) (h:Q (.ref f,[.ref x]) s) :
  qBs (qCb prog w) A (qIr (.ref x) name pl) Q E s:=by
 obtain⟨od,J,hl⟩:=I.look;exact PySem.W.method_fn X J (qIa hg).1 (qIa hg).2 hf (beq_iff_eq.mp ht) (by show(qHt name od).map (·.isSome)=some false;rw[hl,hv];rfl) h
theorem EN(X:K.In s.heap)(I:yA s.heap x dx C mA)
  (hs:qAe K (.ref C) "__setattr__"=some (some (.builtin "object.__setattr__"))) (hp:qDo K C=true) (ht:qJa K C name=some none) (hh:qDl K C=true)
  (hw:PySem.Within mA ns) (hsz:ns.length<=qAg)
  (h:∀h',yA h' x dx C (fun y=>if y=name then some v else mA y)->qHz dx s.heap h'->Q () { s with heap:=h',toks:=s.toks+2 }) :
  qBs (qCb prog w) A (setAttr (.ref x) name v) Q E s:=by
 obtain⟨od,J,hl⟩:=I.look;refine PySem.W.set_plain X J hs (PySem.W.osa_open (s:={ s with toks:=s.toks+1 }) (r:=none) X J hp ht fun b=>?_);obtain⟨cd,hc,hd'⟩:=PySem.W.any_some hh;have hx:s.heap.get? x=some ⟨.ref C,some dx,.plain,#[]⟩:=I.obj;refine qAd (qAm (qAd (qAd (wpAny_loadPart hx (qAd (PySem.W.Looks.here (s:={ s with toks:=s.toks+1 }) (PySem.W.looks_clsIn X hc) ?_))))));rw[hd'];refine qAm (a:=some dx) (qAd (qAm (qAd ?_)));refine wpAny_nsSet1 (s:={ s with toks:=s.toks+1 }) I.ns fun h' hn2 hs2=>?_;obtain⟨oD,esD,epD,hoD,hdD,hcD⟩:=hn2.count (PySem.Within.cons name v hw);refine qAd (wpAny_lookBehind hoD (by rw[hdD];exact pastItsLine_dict (qAx hcD (by rw[qAw];lia))) ?_);exact qAm (h _ ⟨(hs2.2 _ (Ne.symm I.ne)).trans I.obj,hn2,I.ne⟩ hs2)
theorem Cp(X:K.In s.heap)(hm:qDz K C=true)
  (hi:qAe K (.ref C) "__init__"=some (some (.ref f))) (hf:qHs K (.ref f)=some (.type "function"))
  (h:qHb (qCb prog w) (A.under (.builtin "type.__call__" ⟨.ref C::vs,kw⟩)) (.call (.ref f) ⟨.ref (s.heap.objs.size+1)::vs,kw⟩) (PySem.W.InitBack (s.heap.objs.size+1) R)
   { s with heap:=(s.heap.push qDp).push (qEf C s.heap.objs.size) }) :
  qHb (qCb prog w) A (.call (.ref C) ⟨vs,kw⟩) R s:=by
 obtain⟨hh,g,d,t,os⟩:=s;exact PySem.W.make_core (PySem.W.makes_of X hm) (qGe X hi) (fun self=>PySem.W.bind_fn X self hf) (.inl rfl) h
end
def jH(f:Str)(v:V):List (Str×V)->List (Str×V)
 | []=>[(f,v)]
 | (g,x)::r=>if g=f then (g,v)::r else (g,x)::jH f v r
theorem nI(f g:Str)(v:V):∀fs:List (Str×V),(jH f v fs).lookup g=if g=f then some v else fs.lookup g
 | []=>by
  show qGl g [(f,v)]=_;by_cases h:g=f
  .have hb:(g == f)=true:=beq_iff_eq.mpr h;simp only[qGl,hb,if_pos h]
  .have hb:(g == f)=false:=beq_eq_false_iff_ne.mpr h;simp only[qGl,hb,if_neg h]
 | (k,x)::r=>by
  have ih:=nI f g v r;rw[show jH f v ((k,x)::r)=(if k=f then (k,v)::r else (k,x)::jH f v r) from rfl];by_cases hk:k=f
  .rw[if_pos hk];by_cases h:g=k
   .have hb:(g == k)=true:=beq_iff_eq.mpr h;simp only[qGl,hb,if_pos (h.trans hk)]
   .have hb:(g == k)=false:=beq_eq_false_iff_ne.mpr h;simp only[qGl,hb,if_neg (fun e:g=f=>h (e.trans hk.symm))]
  .rw[if_neg hk];by_cases h:g=k
   .have hb:(g == k)=true:=beq_iff_eq.mpr h;simp only[qGl,hb,if_neg (fun e:g=f=>hk (h.symm.trans e))]
   .have hb:(g == k)=false:=beq_eq_false_iff_ne.mpr h;simp only[qGl,hb];exact ih
theorem mP(f:Str)(v:V):∀fs:List (Str×V),f∈(jH f v fs).map (·.1)/\∀g,g∈fs.map (·.1)->g∈(jH f v fs).map (·.1)
 | []=>⟨by simp[jH],fun g h=>by simp at h⟩
 | (k,x)::r=>by
  obtain⟨i1,i2⟩:=mP f v r;rw[show jH f v ((k,x)::r)=(if k=f then (k,v)::r else (k,x)::jH f v r) from rfl];by_cases hk:k=f
  .rw[if_pos hk];subst hk;exact⟨by simp,fun g h=>by simpa using h⟩
  .rw[if_neg hk];refine⟨?_,fun g h=>?_⟩
   .rw[qBa];exact qAs _ i1
   .rw[qBa] at h|-;rcases List.mem_cons.mp h with e | e
    .exact List.mem_cons.mpr (.inl e)
    .exact qAs _ (i2 g e)
theorem nJ(f:Str)(v:V):∀fs:List (Str×V),(jH f v fs).length<=fs.length+1
 | []=>by simp[jH]
 | (k,x)::r=>by
  have ih:=nJ f v r;rw[show jH f v ((k,x)::r)=(if k=f then (k,v)::r else (k,x)::jH f v r) from rfl];by_cases hk:k=f
  .rw[if_pos hk,qAw,qAw];lia
  .rw[if_neg hk,qAw,qAw];lia
theorem kB.some_of(r:kB (some v) o):∃u,o=some u/\RelV v u:=by
 cases o with
 | none=>exact(show False from r).elim
 | some u=>exact⟨u,rfl,r⟩
theorem kB.none_of(r:kB none o):o=none:=by
 cases o with
 | none=>rfl
 | some u=>exact(show False from r).elim
theorem AN(r:RelV v u):qLo u=true:=by
 cases v with
 | non=>cases (show u=Value.none from r);rfl
 | bl b=>cases (show u=Value.bool b from r);rfl
 | int i=>obtain⟨t,e⟩:=(show ∃t,u=Value.int i t from r);cases e;rfl
 | str x=>obtain⟨t,e⟩:=(show ∃t,u=Value.str x t from r);cases e;rfl
 | byt b=>obtain⟨t,e⟩:=(show ∃t,u=Value.bytes b t from r);cases e;rfl
 | flt b=>obtain⟨t,e⟩:=(show ∃t,u=Value.float b t from r);cases e;rfl
 | ref a=>cases (show u=Value.ref a from r);rfl
 | ty n=>cases (show u=Value.type n from r);rfl
section
variable {P:qBl}{w:qCr}{H H':Hp}{h h':Heap}{a C dx:Addr}{fs fs':List (Str×V)}
theorem oF(cK:kG P w H h)(e:H a=some (.ins C dx fs)):∃mA,yA h a dx C mA/\(∀f,kB (fs.lookup f) (mA f))/\PySem.Within mA (fs.map (·.1))/\fs.length<=1000/\H dx=some (.own a):=by
 obtain⟨d,z,ne,ob,mA,n,r,q⟩:=(show dO P w H h a (.ins C dx fs) from cK a _ e);exact⟨mA,⟨ob,n,ne⟩,r,q,z,d⟩
end
structure AO (K:qAb) (C:Addr):Prop where
 pg:qDj K C Str.empty=true
 hd:qDl K C=true
 po:qDo K C=true
 sa:qAe K (.ref C) "__setattr__"=some (some (.builtin "object.__setattr__"))
theorem AO.get{K:qAb}{C:Addr}(c:AO K C)(f:Str):qDj K C f=true:=c.pg
def c5(K:qAb)(C:Addr)(f:Str):Prop:=qAe K (.ref C) f=some none
theorem c5.MK{K:qAb}{C:Addr}{f:Str}(n:c5 K C f):qJa K C f=some none:=by
 delta qJa;rw[show qAe K (.ref C) f=some none from n];rfl
structure Meth (K:qAb) (C:Addr) (m:Str) (f:Addr):Prop where
 at_:qAe K (.ref C) m=some (some (.ref f))
 fn:qBr K (.ref f)=true
 kp:qAu K (.ref f)=true
section
variable {X:Cx}{pins:List (Addr×Obj)}{σ:St}{H:Hp}{s:qAp}{a C dx:Addr}{fs:List (Str×V)}{f:Str}{v:V}{A:qDf}{E:qAi->qAp->Prop}
theorem yB(I:Inv X pins σ H s)(e:H a=some (.ins C dx fs))(c:AO X.K C)(n:c5 X.K C f)(l:fs.lookup f=some v)
  (h:∀u s',Inv X pins σ H s'->RelV v u->Q u s'):qBs (qCb X.prog X.w) A (getAttr (.ref a) f b) Q E s:=by
 obtain⟨mA,O,r,_,_,_⟩:=oF I.cK e;obtain⟨u,hu,ru⟩:=kB.some_of (v:=v) (o:=mA f) (by rw[<- l];exact r f);exact get_map I.qL O (c.get f) c.hd n hu (AN ru) (h u _ (I.tok _) ru)
theorem pA(I:Inv X pins σ H s)(e:H a=some (.ins C dx fs))(c:AO X.K C)(k:Meth X.K C m g)(l:fs.lookup m=none)
  (h:Q (.ref g,[.ref a]) s):qBs (qCb X.prog X.w) A (qIr (.ref a) m pl) Q E s:=by
 obtain⟨mA,O,r,_,_,_⟩:=oF I.cK e;have hn:mA m=none:=kB.none_of (by rw[<- l];exact r m);exact Co I.qL O (c.get m) k.at_ k.fn hn h
theorem yC(I:Inv X pins σ H s)(e:H a=some (.ins C dx fs))(c:AO X.K C)(n:c5 X.K C f)(hl:fs.length<1000)(ry:RelV y u)
  (h:∀s',Inv X pins σ (upd H a (.ins C dx (jH f y fs))) s'->Q () s'):qBs (qCb X.prog X.w) A (setAttr (.ref a) f u) Q E s:=by
 obtain⟨mA,O,r,wi,_,ho⟩:=oF I.cK e;have hz:(fs.map (·.1)).length<=qAg:=by rw[qAa,qFw];lia
 refine EN I.qL O c.sa c.po n.MK c.hd wi hz fun h' O' sb=>h _ ?_;have hd:∃o,h'.get? dx=some o:=let ⟨o,_,_,e',_⟩:=O'.ns;⟨o,e'⟩;refine I.write (x:=a) (e:=dx) (by rw[e];exact True.intro) (.inr ho) (fun b q hb z=>(sb.2 b hb).trans z) hd ?_;refine⟨by rw[aQ O.ne];exact ho,?_,O.ne,O'.obj,_,O'.ns,fun g=>?_,fun g hg=>?_⟩
 .have:=nJ f y fs;lia
 .show kB ((jH f y fs).lookup g) (if g=f then some u else mA g);rw[nI];by_cases q:g=f
  .rw[if_pos q,if_pos q];exact ry
  .rw[if_neg q,if_neg q];exact r g
 .by_cases q:g=f
  .rw[q];exact(mP f y fs).1
  .refine(mP f y fs).2 g (wi g fun z=>hg ?_);show(if g=f then some u else mA g)=none;rw[if_neg q];exact z
theorem Inv.made(I:Inv X pins σ H s):Inv X pins σ (upd (upd H s.heap.objs.size (.own (s.heap.objs.size+1))) (s.heap.objs.size+1) (.ins C s.heap.objs.size []))
  { s with heap:=(s.heap.push qDp).push (qEf C s.heap.objs.size) }:=by
 have e1:(s.heap.push qDp).get? s.heap.objs.size=some qDp:=qAz s.heap rfl;have e2:((s.heap.push qDp).push (qEf C s.heap.objs.size)).get? (s.heap.objs.size+1)=some (qEf C s.heap.objs.size):=by
  have:=qAz (s.heap.push qDp) (o:=qEf C s.heap.objs.size) rfl;rwa [qGu] at this
 have e3:(s.heap.push qDp).Ns s.heap.objs.size (fun _=>none):=⟨qDp,#[],_,e1,rfl,(fun e he=>absurd he (by simp)),fun _=>rfl⟩;have I1:=I.laid (a:=s.heap.objs.size) (o:=.own (s.heap.objs.size+1)) (h':=s.heap.push qDp) (t':=s.toks) (fun b u q=>qAk _ q) (qAl _) ⟨_,e1⟩;refine I1.laid (a:=s.heap.objs.size+1) (o:=.ins C s.heap.objs.size []) (t':=s.toks) (fun b u q=>qAk _ q) (qJj (qGu _ _)) ?_;have ne:s.heap.objs.size≠s.heap.objs.size+1:=qBk (qFi _);refine⟨by rw[aQ ne,aC],qBf _,ne,e2,fun _=>none,(Heap.Ns1.of_empty e3).at fun o q=>qAk _ q,fun _=>True.intro,fun y hy=>absurd rfl hy⟩
theorem EO(hb:attributeBase e f env (eval e env)=eval e env)
  (h:qBs (qCb prog w) A (eval e env) (fun o s₁=>qBs (qCb prog w) A (getAttr o f true) Q E s₁) E s):qBs (qCb prog w) A (eval (.Attribute e f pos) env) Q E s :=
 Attribute_any_ h (by rw[arm_eval_Attribute,hb])
end
def Qe(K:qAb)(ta:TE)(f:Str):TE:=fun σ H Q=>ta σ H fun x H1=>∃a C dx fs v,x = .ref a/\H1 a=some (.ins C dx fs)/\AO K C/\c5 K C f/\fs.lookup f=some v/\Q v H1
def Qf(K:qAb)(ta tv:TE)(f:Str):TS:=fun D σ H=>tv σ H fun y H1=>ta σ H1 fun x H2=>∃a C dx fs,x = .ref a/\H2 a=some (.ins C dx fs)/\AO K C/\c5 K C f/\fs.length<1000 /\
 D.nx σ (upd H2 a (.ins C dx (jH f y fs)))
section
variable {X:Cx}{o e value:Expr}{f:Str}{pos pos' tpos:Pos}{ta tv:TE}
theorem cF(he:PE X e ta)(hb:attributeBase e f X.env (eval e X.env)=eval e X.env):PE X (.Attribute e f pos) (Qe X.K ta f):=by
 intro pins s σ H Q I h;refine EO hb (cA (he pins s σ H _ I h) fun u s1 z9=>?_);obtain⟨x,H1,I1,rx,a,C,dx,fs,v,ex,ea,c,n,l,q⟩:=z9;subst ex;obtain rfl:u=Value.ref a:=rx;exact yB I1 ea c n l fun u' s2 I2 ru=>⟨v,H1,I2,ru,q⟩
theorem gF(ha:PE X o ta)(hv:PE X value tv)(hs:qJq value (some (.Attribute o f pos')) pos.line X.env=pure false):PS X (.Assign [.Attribute o f pos'] value pos) (Qf X.K ta tv f):=by
 intro pins s σ H D I h;refine plainObj_wpAny_Assign_Attribute (cA (hv pins s σ H _ I h) fun u s1 ⟨y,H1,I1,ry,q⟩=>cA (ha pins s1 σ H1 _ I1 q) fun ov s2 z9=>?_) hs;obtain⟨x,H2,I2,rx,a,C,dx,fs,ex,ea,c,n,l,q2⟩:=z9;subst ex;obtain rfl:ov=Value.ref a:=rx;exact yC I2 ea c n l ry fun s3 I3=>⟨σ,_,I3,q2⟩
end
section
variable {X:Cx}{pins:List (Addr×Obj)}{σ:St}{H:Hp}{s:qAp}{A:qDf}{E:qAi->qAp->Prop}{Q:qAi->qAp->Prop}{c:qAi}{b:Bool}
inductive kC (K:qAb) (H:Hp):V->qAi->Prop where
 | non:kC K H .non (.type "NoneType")
 | bl (x:Bool):kC K H (.bl x) (.type "bool")
 | int (i:Int):kC K H (.int i) (.type "int")
 | str (x:Str):kC K H (.str x) (.type "str")
 | flt (x:UInt64):kC K H (.flt x) (.type "float")
 | lst {a:Addr}{xs:List V} (e:H a=some (.lst xs)):kC K H (.ref a) (.type "list")
 | frz {a:Addr}{o:Obj}{xs:List V} (e:H a=some (.frz o (.lst xs))):kC K H (.ref a) (.type "list")
 | tup {a:Addr}{xs:List V} (e:H a=some (.tup xs)):kC K H (.ref a) (.type "tuple")
 | dK {a:Addr}{kvs:List (Key×V)} (e:H a=some (.dK kvs)):kC K H (.ref a) (.type "dict")
 | dT {a:Addr}{kvs:List (List Key×V)} (e:H a=some (.dT kvs)):kC K H (.ref a) (.type "dict")
 | ins {a C dx:Addr}{fs:List (Str×V)} (e:H a=some (.ins C dx fs)) (cl:AO K C) (ha:qAe K (.ref C) "__class__"=some (some (.builtin "object.__class__")))
   (hn:qEc K (.builtin "object.__class__") "__get__"=some (some (.builtin "getset_descriptor.__get__"))) (htk:qFj K (.builtin "object.__class__")=some true)
   (hm:qCn K C (.type "object")=some true):kC K H (.ref a) (.ref C)
end
structure dE (k:Nat) (A:qDf):Prop where
 hd:A.handled=none
 dp:A.depth+3*k+5<recursionLimit
 un:A.units+16*k+200<qIe
theorem dE.mono(r:dE k A)(h:j<=k):dE j A:=⟨r.hd,by have:=r.dp;lia,by have:=r.un;lia⟩
theorem dE.deeper(r:dE (k+1) A)(env:Env):dE k (A.deeper env) :=
 ⟨r.hd,by have:=r.dp;show A.depth+1+3*k+5<_;lia,by have:=r.un;show A.units+3+16*k+200<_;lia⟩
theorem dE.in1(r:dE (k+1) A):dE k A.in1 :=
 ⟨r.hd,by have:=r.dp;show A.depth+3*k+5<_;lia,by have:=r.un;show A.units+1+16*k+200<_;lia⟩
theorem yD{A:qDf}{C:Addr}{us:List qAi}{kw:List (Str×qAi)}:(A.under (.builtin "type.__call__" ⟨.ref C::us,kw⟩)).depth=A.depth+1:=by
 first | rfl | simp[Around.under,Code.weight,Code.isCreation,Code.isGuard,Code.isCaller,Code.frames,Code.isFrame,guardIds]
theorem yE{A:qDf}{C:Addr}{us:List qAi}{kw:List (Str×qAi)}:(A.under (.builtin "type.__call__" ⟨.ref C::us,kw⟩)).units=A.units+1:=by
 first | rfl | simp[Around.under,Code.cUnits,Code.frames,Code.isFrame]
theorem dE.make(r:dE (k+1) A)(C:Addr)(us:List qAi)(kw:List (Str×qAi)):dE k (A.under (.builtin "type.__call__" ⟨.ref C::us,kw⟩)) :=
 ⟨r.hd,by have:=r.dp;rw[yD];lia,by have:=r.un;rw[yE];lia⟩
theorem dE.depth(r:dE k A):A.depth<recursionLimit:=by have:=r.dp;lia
theorem dE.units(r:dE k A):A.units+64<qIe:=by have:=r.un;lia
def kD:TA:=fun _ H Q=>Q [] H
def lB(ta:TE)(tr:TA):TA:=fun σ H Q=>ta σ H fun x H1=>tr σ H1 fun xs H2=>Q (x::xs) H2
section
variable {X:Cx}{e:Expr}{es:List Expr}{te:TE}{t:TA}{pos:Pos}
theorem aB:PA X [] kD:=fun _ _ _ _ H Q I h=>Calls.spliced_nil ⟨[],H,I,.nil,h⟩
theorem aA(ha:PE X e te)(hr:PA X es t)(hs:qBx (e::es) X.env=(false,eval e X.env)::qBx es X.env:=by rfl):PA X (e::es) (lB te t):=by
 intro pos pins s σ H Q I h;rw[hs];show qBs _ _ (spliced ((false,eval e X.env)::qFb pos (qBx es X.env))) _ _ s;refine Calls.spliced_cons (cA (ha pins s σ H _ I h) fun u s1 z9=>?_);obtain⟨x,H1,I1,r1,q1⟩:=z9;exact cA (hr pos pins s1 σ H1 _ I1 q1) (by rintro us s2 ⟨xs,H2,I2,r2,q2⟩;exact ⟨x::xs,H2,I2,.cons r1 r2,q2⟩)
def ML(t:TA):TE:=fun σ H Q=>t σ H fun xs H1=>xs.length<=qAg/\∀p,H1 p=none->Q (.ref p) (upd H1 p (.tup xs))
def Ii(t:TA):TE:=fun σ H Q=>t σ H fun xs H1=>xs.length<=qAg/\∀p,H1 p=none->Q (.ref p) (upd H1 p (.lst xs))
theorem cJ{x1}(h:PA X es t):PE X (.Tuple es x1 pos) (ML t):=by
 intro pins s σ H Q I hq;refine wpAny_Tuple_spliced (cA (h pos pins s σ H _ I hq) fun us s1 ⟨xs,H1,I1,r,z,q⟩=>⟨by rw[<- r.length];exact z,?_⟩);have hf:H1 s1.heap.objs.size=none:=I1.cK.fresh (qAl _);refine⟨.ref s1.heap.objs.size,upd H1 s1.heap.objs.size (.tup xs),I1.laid (t':=s1.toks) (fun b u e=>qAk _ e) (qAl _) ?_,rfl,q _ hf⟩;exact⟨z,us,r,⟨_,qAz _ rfl,rfl,_,rfl⟩⟩
theorem bO(h:PA X es t):PE X (.List es pos) (Ii t):=by
 intro pins s σ H Q I hq;refine wpAny_List_spliced (cA (h pos pins s σ H _ I hq) fun us s1 ⟨xs,H1,I1,r,z,q⟩=>⟨by rw[<- r.length];exact z,?_⟩);have hf:H1 s1.heap.objs.size=none:=I1.cK.fresh (qAl _);refine⟨.ref s1.heap.objs.size,upd H1 s1.heap.objs.size (.lst xs),I1.laid (t':=s1.toks) (fun b u e=>qAk _ e) (qAl _) ?_,rfl,q _ hf⟩;exact⟨z,us,0,r,qAz _ rfl⟩
end
abbrev Sp:=List V->Hp->VK->XK->Prop
abbrev zS:=List Env->Hp->qAp->XK->qAi->qAp->Prop
structure qQ (P:qBl) (w:qCr) (K:qAb) (mg:Str->Option qAi) (base:Heap) (A:qDf) (outer:List Env) (s:qAp) (H:Hp):Prop where
 frames:A.frames=some outer
 mod:Mod K mg base
 bs:∀b o,base.get? b=some o->s.heap.get? b=some o/\H b=none
 EF:base.objs.size<=s.heap.objs.size
 kN:s.heap.FunFrames base outer
 GA:∀b∈oW outer,H b=none
 cK:kG P w H s.heap
 bare:qIs s.gens
def CE(outer:List Env)(P:qBl)(w:qCr)(H:Hp)(s:qAp)(Q:VK)(u:qAi)(s':qAp):Prop :=
 ∃v H',s'.os=s.os/\qIs s'.gens/\Un (oW outer) [] H H' s.heap s'.heap/\kG P w H' s'.heap/\RelV v u/\Q v H'
def CR(CX:zS)(outer:List Env)(P:qBl)(w:qCr)(H:Hp)(s:qAp)(Q:VK)(E:XK)(r:qOr)(s':qAp):Prop :=
 match r with
 | .ok (.ret u)=>CE outer P w H s Q u s'
 | .ok _=>False
 | .error e=>CX outer H s E e s'
structure gY (P:qBl) (w:qCr) (K:qAb) (mg:Str->Option qAi) (base:Heap) (CX:zS) (k:Nat) (f:Addr) (fd:qCi) (ps:List Str) (sp:Sp):Prop where
 len:∀vs H Q E,sp vs H Q E->vs.length=ps.length
 run:∀(A:qDf) (outer:List Env) (s:qAp) (H:Hp) (args:Args) (us:List qAi) (vs:List V) (Q:VK) (E:XK),dE k A->qQ P w K mg base A outer s H->qMj s fd args (ps.zip us)->Vals vs us->sp vs H Q E ->
  qHb (qCb P w) A (.call (.ref f) args) (CR CX outer P w H s Q E) s
theorem gY.imp{P:qBl}{w:qCr}{K:qAb}{mg:Str->Option qAi}{base:Heap}{CX:zS}{k:Nat}{f:Addr}{fd:qCi}{ps:List Str}{sp sp':Sp}(F:gY P w K mg base CX k f fd ps sp)
  (h:∀vs H Q E,sp' vs H Q E->sp vs H Q E):gY P w K mg base CX k f fd ps sp' :=
 ⟨fun vs H Q E q=>F.len vs H Q E (h _ _ _ _ q),fun A outer s H args us vs Q E hr he hb hv hs=>F.run A outer s H args us vs Q E hr he hb hv (h _ _ _ _ hs)⟩
theorem qQ.make{P:qBl}{w:qCr}{K:qAb}{mg:Str->Option qAi}{base:Heap}{A:qDf}{outer:List Env}{s:qAp}{H:Hp}(e:qQ P w K mg base A outer s H)(C:Addr)(us:List qAi)(kw:List (Str×qAi)):
  qQ P w K mg base (A.under (.builtin "type.__call__" ⟨.ref C::us,kw⟩)) outer s H:=⟨by first|exact e.frames | (simpa [Around.under,Code.envs,Code.isFrame,pushEnvs] using e.frames),e.mod,e.bs,e.EF,e.kN,e.GA,e.cK,e.bare⟩
theorem qQ.in1{P:qBl}{w:qCr}{K:qAb}{mg:Str->Option qAi}{base:Heap}{A:qDf}{outer:List Env}{s:qAp}{H:Hp}(e:qQ P w K mg base A outer s H):
  qQ P w K mg base A.in1 outer s H:=⟨e.frames,e.mod,e.bs,e.EF,e.kN,e.GA,e.cK,e.bare⟩
section
variable {X:Cx}{pins:List (Addr×Obj)}{σ:St}{H:Hp}{s s':qAp}
theorem Inv.ER(I:Inv X pins σ H s):qQ X.prog X.w X.K X.mg X.base X.A X.stack s H :=
 ⟨I.ok.frames,I.ok.mod,I.bs,qAx I.ok.EF I.sz,I.stack,I.oE,I.cK,I.bare⟩
theorem Inv.after(I:Inv X pins σ H s)(h:CE X.stack X.prog X.w H s Q u s'):EP X pins σ Q u s':=by
 obtain⟨v,H',os,bare,un,cK,r,q⟩:=h;obtain⟨hh,g,d,t,os'⟩:=s';obtain rfl:os'=s.os:=os;exact⟨v,H',I.call (h':=hh) (g':=g) (d':=d) (t':=t) (ch:=[]) un cK bare (fun b z=>absurd z (by simp)),r,q⟩
end
def Cq(sp:Sp)(dvs:List V)(E:XK)(t:TA):TE:=fun σ H Q=>t σ H fun vs H1=>sp (vs++dvs) H1 Q E
def Binds(K:qAb)(fd:qCi)(ps:List Str)(ds:List qAi):Prop :=
 ∀(s:qAp) (us:List qAi),K.In s.heap->(us++ds).length=ps.length->qMj s fd ⟨us,[]⟩ (ps.zip (us++ds))
theorem Binds.all{K:qAb}{fd:qCi}{ps:List Str}(h:∀us:List qAi,us.length=ps.length->qMi fd ⟨us,[]⟩=pure (ps.zip us)):Binds K fd ps []:=fun s us _ hl=>by
 rw[qCl] at hl|-;exact .of_eq (h us hl)
def Passes(CX:zS)(X:Cx)(E:XK):Prop:=∀(pins:List (Addr×Obj)) (σ:St) (H:Hp) (s:qAp) (e:qAi) (s':qAp),Inv X pins σ H s->CX X.stack H s E e s'->X.xe e s'
section
variable {X:Cx}{CX:zS}{k:Nat}{f C:Addr}{fd:qCi}{ps:List Str}{sp:Sp}{dvs:List V}{ds:List qAi}{E:XK}{x m:Str}{p pos apos:Pos}{e o:Expr}{es:List Expr}{ta:TE}{t:TA}
theorem Ij(F:gY X.prog X.w X.K X.mg X.base CX k f fd ps sp)(hr:dE k X.A)(hb:Binds X.K fd ps ds)(hd:Vals dvs ds)(hx:Passes CX X E)
  (I:Inv X pins σ H s) (r:Vals vs us) (h:sp (vs++dvs) H Q E):qBs (qCb X.prog X.w) X.A (call (.ref f) us) (EP X pins σ Q) X.xe s:=by
 have r2:Vals (vs++dvs) (us++ds):=r.append hd;have hl:(us++ds).length=ps.length:=by rw[<- r2.length];exact F.len _ _ _ _ h
 refine qGg (qFy (F.run X.A X.stack s H ⟨us,[]⟩ (us++ds) (vs++dvs) Q E hr I.ER (hb s us I.qL hl) r2 h) fun r s' hq=>?_);cases r with
 | error e=>exact hx pins σ H s e s' I hq
 | ok fl =>
  cases fl with
  | ret u=>exact I.after hq
  | next=>exact False.elim hq
  | brk=>exact False.elim hq
  | cont=>exact False.elim hq
theorem ES(F:gY X.prog X.w X.K X.mg X.base CX k f fd ps sp)(hr:dE k X.A)(hg:Gl X x)(hm:X.mg x=some (.ref f))(hk:qAu X.K (.ref f)=true)(hb:Binds X.K fd ps ds)(hd:Vals dvs ds)(hx:Passes CX X E)
  (ha:PA X (e::es) t) (hdb:(x == ("__debug__":Str))=false:=by decide) (he:qBx (e::es) X.env=(false,eval e X.env)::qBx es X.env:=by rfl) (hpl:(qFb pos (qBx es X.env)).any (·.1)=false:=by rfl) :
  PE X (.Call (.Name x p) (e::es) [] pos) (Cq sp dvs E t):=by
 intro pins s σ H Q I h;refine qEq (k9 I hg hm ?_ hdb);refine qFk (h₀:=X.base) I.ok.mod.Gz hk (cA (ha pos pins s σ H _ I h) fun us s1 ⟨vs,H1,I1,r,q⟩=>⟨I1.qL,?_⟩) he hpl;exact Ij F hr hb hd hx I1 r q
structure Mk (K:qAb) (C f:Addr):Prop where
 makes:qDz K C=true
 init:qAe K (.ref C) "__init__"=some (some (.ref f))
 fn:qBr K (.ref f)=true
 kp:qAu K (.ref C)=true
end
def PK(X:Cx)(kws:List qOs)(t:TA):Prop :=
 ∀(pos:Pos) (pins:List (Addr×Obj)) (s:qAp) (σ:St) (H:Hp) (Q:List V->Hp->Prop),Inv X pins σ H s->t σ H Q->qBs (qCb X.prog X.w) X.A (evalAll ((qGt pos (qEw kws X.env)).map (·.2))) (AP X pins σ Q) X.xe s
section
variable {X:Cx}{CX:zS}{k:Nat}{f C:Addr}{fd:qCi}{ps ks:List Str}{sp:Sp}{E:XK}{x m:Str}{p pos apos kpos:Pos}{e o:Expr}{es:List Expr}{kws:List qOs}{te ta:TE}{t tk:TA}{nm:Option Str}
theorem Ik:PK X [] kD:=fun _ _ _ _ H Q I h=>wpAny_evalAll_nil ⟨[],H,I,.nil,h⟩
theorem ET(ha:PE X e te)(hr:PK X kws t):PK X (⟨nm,e,kpos⟩::kws) (lB te t):=by
 intro pos pins s σ H Q I h;show qBs _ _ (evalAll ((do let v <- eval e X.env;qKd pos;pure v)::(qGt pos (qEw kws X.env)).map (·.2))) _ _ s;refine wpAny_evalAll_cons (qAd (cA (ha pins s σ H _ I h) fun u s1 ⟨x,H1,I1,r1,q1⟩=>qAd (qGc (qAm ?_))));exact cA (hr pos pins s1 σ H1 _ I1 q1) (by rintro us s2 ⟨xs,H2,I2,r2,q2⟩;exact ⟨x::xs,H2,I2,.cons r1 r2,q2⟩)
variable {g:List qAi->List qAi->List qAi}{gV:List V->List V->List V}
end
structure aN (N P:List Str) (sc:qJh):Prop where
 kind:sc.kind = .function
 co:sc.isCoroutine=false
 gen:sc.isGenerator=false
 nd:N.Nodup
 pre:N.take P.length=P
 par:∀x∈P,sc.names.lookup x=some .local\/sc.names.lookup x=some .cell
 Il:∀y∈sc.names,y.2≠.free
theorem rJ{qIi:Str->Option qKq}{x:Str}:∀{binds:List (Str×qAi)}{m:Str->Option qAi},(∀v,(x,v)∉binds)->qNu qIi binds m x=m x
 | [],_,_=>rfl
 | (n,v)::r,m,h=>by
  unfold qNu;rw[rJ fun w hw=>h w (qAs _ hw)];split
  .have:x≠n:=by rintro rfl;exact h v qBn
   simp[this]
  .rfl
theorem rK{qIi:Str->Option qKq}{x:Str}:∀{binds:List (Str×qAi)}{m:Str->Option qAi},(∀v,(x,v)∉binds)->qNv qIi binds m x=m x
 | [],_,_=>rfl
 | (n,v)::r,m,h=>by
  unfold qNv;rw[rK fun w hw=>h w (qAs _ hw)];split
  .rfl
  .have:x≠n:=by rintro rfl;exact h v qBn
   simp[this]
theorem rL{qIi:Str->Option qKq}{x:Str}{v:qAi}:∀{P:List Str}{vs:List qAi}{i:Nat}{m:Str->Option qAi},P.Nodup->P[i]?=some x->vs[i]?=some v->qIi x=some .local ->
  qNu qIi (P.zip vs) m x=some v
 | [],_,_,_,_,h,_,_=>by simp at h
 | _::_,[],_,_,_,_,h,_=>by simp at h
 | p::P,w::vs,0,m,nd,h1,h2,hk=>by
  simp at h1 h2;subst h1;subst h2;show qNu qIi ((p,w)::P.zip vs) m p=_;unfold qNu;rw[rJ fun v hv=>(List.nodup_cons.mp nd).1 (qJx hv).1,if_pos hk];simp
 | p::P,w::vs,i+1,m,nd,h1,h2,hk=>by
  show qNu qIi ((p,w)::P.zip vs) m x=_;unfold qNu;exact rL (i:=i) (List.nodup_cons.mp nd).2 (by simpa using h1) (by simpa using h2) hk
theorem rQ{qIi:Str->Option qKq}{x:Str}{v:qAi}:∀{P:List Str}{vs:List qAi}{i:Nat}{m:Str->Option qAi},P.Nodup->P[i]?=some x->vs[i]?=some v->qIi x≠some .local ->
  qNv qIi (P.zip vs) m x=some v
 | [],_,_,_,_,h,_,_=>by simp at h
 | _::_,[],_,_,_,_,h,_=>by simp at h
 | p::P,w::vs,0,m,nd,h1,h2,hk=>by
  simp at h1 h2;subst h1;subst h2;show qNv qIi ((p,w)::P.zip vs) m p=_;unfold qNv;rw[rK fun v hv=>(List.nodup_cons.mp nd).1 (qJx hv).1,if_neg hk];simp
 | p::P,w::vs,i+1,m,nd,h1,h2,hk=>by
  show qNv qIi ((p,w)::P.zip vs) m x=_;unfold qNv;exact rQ (i:=i) (List.nodup_cons.mp nd).2 (by simpa using h1) (by simpa using h2) hk
def start(N:List Str)(vs:List V):St:=vs.map some++qBq (N.length-vs.length) none
def nX(CX:zS)(P:qBl)(w:qCr)(K:qAb)(mg:Str->Option qAi)(base:Heap)(N:List Str)(qual:Str)(scope:qJh)(f:Addr)(cd:qAi)(A:qDf)(outer:List Env)(s:qAp)(H:Hp)(E:XK):Cx where
 prog:=P
 w:=w
 K:=K
 mg:=mg
 base:=base
 A:=A.deeper (qIj qual scope s.heap.objs.size f cd)
 N:=N
 s₀:=s
 H₀:=H
 env:=qIj qual scope s.heap.objs.size f cd
 outer:=outer
 stack:=qIj qual scope s.heap.objs.size f cd::outer
 ex:=[]
 calm:=true
 fn:=fun _=>true
 pn:=[]
 xe:=fun e s'=>qBs (qCb P w) (A.deeper (qIj qual scope s.heap.objs.size f cd)) (leaving (qIj qual scope s.heap.objs.size f cd) e) (fun _ s''=>CX outer H s E e s'') (fun e' s''=>CX outer H s E e' s'') s'
theorem vD{sc:qJh}{n:Nat}{x:Str}(h:sc.names.lookup x=some .cell):∃c,(qJt n sc.names []).lookup x=some c:=by
 have q:=qKf sc.names n [] (.inl h);exact Option.isSome_iff_exists.mp q
theorem AQ{CX:zS}{P:qBl}{w:qCr}{K:qAb}{mg:Str->Option qAi}{base:Heap}{N ps:List Str}{qual:Str}{scope:qJh}{f:Addr}{cd:qAi}{A:qDf}{outer:List Env}{s s1:qAp}{H:Hp}{E:XK}{us:List qAi}{vs:List V}
  (S:aN N ps scope) (hd:A.handled=none) (e0:qQ P w K mg base A outer s H) (hl:vs.length=ps.length) (r:Vals vs us)
  (x:InCallC s s.heap.objs.size (qNu (qIj qual scope s.heap.objs.size f cd).kindOf (ps.zip us) fun _=>none) (qJt (s.heap.objs.size+1) scope.names []) (qNv (qIj qual scope s.heap.objs.size f cd).kindOf (ps.zip us) fun _=>none) s1) :
  Inv (nX CX P w K mg base N qual scope f cd A outer s H E) [] (start N vs) H s1:=by
 have hpl:ps.length<=N.length:=by have:=congrArg qOl S.pre;rw[qEl] at this;lia
 obtain⟨h1,tk,rfl,hk⟩:=x.done;have noA:∀b:Addr,b∉(nX CX P w K mg base N qual scope f cd A outer s H E).ex:=fun b z=>absurd (show b∈([]:List Addr) from z) (by simp);refine⟨⟨e0.mod,S.kind,rfl,rfl,qAl _,fun y z c h1 h2=>?_,fun y hy=>?_,fun y c _ h=>?_,fun _=>hd,Around.frames_deeper e0.frames,.inr ⟨rfl,rfl⟩,fun b z=>absurd z (noA b),e0.bs,e0.EF,fun b _ _=>noA b,fun b z=>absurd z (noA b),e0.kN,e0.GA⟩,
  rfl,e0.bare,Un.kept hk,⟨_,x.toInCall.ns,fun i y v h1 h2 h3=>?_⟩,fun y c h=>⟨_,x.cell y c h⟩,e0.cK.fresh (qAl _),fun y c h=>?_,fun p hp=>absurd (show p∈([]:List (Addr×Obj)) from hp) (by simp),e0.cK.kept hk,?_⟩
 .exact name_of_addr x.apart (PySem.mem_of_lookup h1) (PySem.mem_of_lookup h2)
 .have hy:scope.names.lookup y=some .cell\/scope.names.lookup y=some .free:=hy;rcases hy with hy | hy
  .exact vD hy
  .exact absurd rfl (S.Il _ (PySem.mem_of_lookup hy))
 .exact qBb (x.above y c (PySem.mem_of_lookup h))
 .have hi:i<vs.length:=by
   unfold start at h2;by_cases hi:i<vs.length
   .exact hi
   .rw[qCd (by simpa using hi)] at h2;rw[List.getElem?_replicate] at h2;split at h2 <;> cases h2
  have ha:vs[i]?=some v:=by
   unfold start at h2;rw[qBu (by simpa using hi),qAf] at h2;cases e:vs[i]? with
   | none=>rw[e] at h2;cases h2
   | some a=>rw[e] at h2;cases h2;rfl
  obtain⟨u,hu,rv⟩:=r.get ha;have hp:ps[i]?=some y:=by
   rw[<- S.pre,qHe (by lia)];exact h1
  have ndP:ps.Nodup:=by rw[<- S.pre];exact S.nd.sublist (List.take_sublist _ _)
  exists u,rv;rcases S.par y (qAq hp) with k | k
  .exact .inl ⟨k,rL ndP hp hu k⟩
  .obtain⟨c,e⟩:=vD (n:=s.heap.objs.size+1) k;refine .inr ⟨.inl k,c,e,?_⟩;have q:=x.cell y c e;rw[rQ ndP hp hu (by show scope.names.lookup y≠_;rw[k];decide)] at q;exact q
 .exact e0.cK.fresh (qBb (x.above y c (PySem.mem_of_lookup h)))
 .unfold start;show _=N.length;rw[qAo,qAa,qHw];lia
theorem GG{CX:zS}{P:qBl}{w:qCr}{K:qAb}{mg:Str->Option qAi}{base:Heap}{k:Nat}{f:Addr}{name qual:Str}{params:Arguments}{body:List Stmt}{scope:qJh}{dV kV doc pm cdv ct oc:qAi}{an od:Option Addr}
  {osl:Array (Option qAi)}{N ps:List Str}{sp:Sp} (lk:K.lookup f=some ⟨oc,od,.func (qBh name qual params body scope dV kV doc pm an cdv ct),osl⟩) (hcd:qBd K cdv qual=true) (S:aN N ps scope)
  (len:∀vs H Q E,sp vs H Q E->vs.length=ps.length)
  (hbody:∀(A:qDf) (outer:List Env) (s:qAp) (H:Hp) (vs:List V) (Q:VK) (E:XK),dE k (A.deeper (qIj qual scope s.heap.objs.size f cdv))->sp vs H Q E ->
   ∃t,rG (nX CX P w K mg base N qual scope f cdv A outer s H E) body t/\t { nx:=fun _ H'=>Q .non H',rt:=Q } (start N vs) H) :
  gY P w K mg base CX (k+1) f (qBh name qual params body scope dV kV doc pm an cdv ct) ps sp:=by
 refine⟨len,fun A outer s H args us vs Q E hr e0 hb r hsp=>?_⟩;have hl:=len _ _ _ _ hsp;have KX:K.In s.heap:=e0.mod.Gz.keeps fun b o e=>(e0.bs b o e).1;have lim:s.heap.NoLimit:=e0.mod.nolimit.keeps fun b o e=>(e0.bs b o e).1;have hkind:∀y∈ps.zip us,scope.names.lookup y.1=some .local\/(scope.names.lookup y.1=some .cell/\((qJt (s.heap.objs.size+1) scope.names []).lookup y.1).isSome=true):=fun⟨n,v⟩ hy=>by
  rcases S.par n (qJx hy).1 with q | q
  .exact .inl q
  .exact .inr ⟨q,qKf _ _ _ (.inl q)⟩
 refine codeAny_call_function hr.depth (KX _ _ lk) rfl S.co S.gen rfl (PySem.W.codeRec_of KX hcd) (hb _ _ _ _ ?_);refine wpAny_newFunctionEnv_cells S.kind hkind fun env he s1 x=>?_;subst he;refine⟨lim.keeps x.toInCall.keep,codeAny_func ?_⟩;obtain⟨t,ht,hq⟩:=hbody A outer s H vs Q E (hr.deeper _) hsp;have I:Inv (nX CX P w K mg base N qual scope f cdv A outer s H E) [] (start N vs) H s1:=AQ S hr.hd e0 hl r x;refine qFa (ht [] s1 (start N vs) H _ I hq) (fun fl s' hs=>?_) fun e s' hs=>hs;have fin:∀{σ':St}{H':Hp}{v:V}{u:qAi},Inv (nX CX P w K mg base N qual scope f cdv A outer s H E) [] σ' H' s'->RelV v u->Q v H'->CE outer P w H s Q u s' :=
  fun {σ' H' v u} J rv q=>⟨v,H',J.os,J.bare,J.base,J.cK,rv,q⟩
 cases fl with
 | ret u =>
  obtain⟨v,σ',H',J,rv,q⟩:=hs;exact fin J rv q
 | next =>
  obtain⟨σ',H',J,q⟩:=hs;exact fin (v:=V.non) (u:=Value.none) J rfl q
 | brk =>
  obtain⟨_,_,_,q⟩:=hs;exact False.elim q
 | cont =>
  obtain⟨_,_,_,q⟩:=hs;exact False.elim q
section
variable {X:Cx}{x:Str}{p pos:Pos}{e:Expr}{es:List Expr}{t:TA}{id T:String}{r:List V->Hp->VK->Prop}
def RJ(r:List V->Hp->VK->Prop)(t:TA):TE:=fun σ H Q=>t σ H fun vs H1=>r vs H1 Q
theorem aM(hc:eZ X (.builtin id) r)(hg:Gl X x)(hm:X.mg x=none)(hv:qCx x=some (.builtin id))(ha:PA X (e::es) t)(hn:x≠"__name__":=by decide)(hdb:(x == ("__debug__":Str))=false:=by decide)
  (he:qBx (e::es) X.env=(false,eval e X.env)::qBx es X.env:=by rfl) (hpl:(qFb pos (qBx es X.env)).any (·.1)=false:=by rfl):PE X (.Call (.Name x p) (e::es) [] pos) (RJ r t):=by
 intro pins s σ H Q I h;refine qEq (jK I hg hm hv ?_ hn hdb);exact qOd (cA (ha pos pins s σ H _ I h) (by rintro us s1 ⟨vs,H1,I1,r1,q1⟩;exact hc pins s1 σ H1 vs us Q I1 r1 q1)) he hpl
theorem bW(hc:eZ X (.type T) r)(hg:Gl X x)(hm:X.mg x=none)(hv:qCx x=some (.type T))(ha:PA X (e::es) t)(hn:x≠"__name__":=by decide)(hdb:(x == ("__debug__":Str))=false:=by decide)
  (he:qBx (e::es) X.env=(false,eval e X.env)::qBx es X.env:=by rfl) (hpl:(qFb pos (qBx es X.env)).any (·.1)=false:=by rfl):PE X (.Call (.Name x p) (e::es) [] pos) (RJ r t):=by
 intro pins s σ H Q I h;refine qEq (jK I hg hm hv ?_ hn hdb);exact qEs (cA (ha pos pins s σ H _ I h) (by rintro us s1 ⟨vs,H1,I1,r1,q1⟩;exact hc pins s1 σ H1 vs us Q I1 r1 q1)) he hpl
end
end L2
namespace HT
open PySem PyProof.Rows
def lexLt:List Int->List Int->Bool
 | [],[]=>false
 | [],_::_=>true
 | _::_,[]=>false
 | x::xs,y::ys=>if x=y then lexLt xs ys else decide (x<y)
theorem gG(x y:Int)(xs ys:List Int):lexLt (x::xs) (y::ys)=if x=y then lexLt xs ys else decide (x<y):=rfl
theorem Cr(A:qDf)(s:qAp)(a:Int)(t:Tok)(c:Int)(u:Tok):∃e,SeqAt.EqAt A s (.int a t) (.int c u) e/\(e=true↔a=c) :=
 ⟨(a == c),SeqAt.EqAt.int_int a t c u,by simp⟩
section
open PySem.SeqAt
open PySem.AutoSeq1 (wpAny_loadPart')
open PySem.MeetsSeq PySem.MeetsSeq2 PySem.MeetsSeq3
end
section
variable {prog:qBl}{w:qCr}{A:qDf}{E:qAi->qAp->Prop}{s:qAp}
theorem EU(ht:qNw s.heap t vs.toArray)(hb:qNw s.heap b ws.toArray)(hv:vs≠[])
  (h1:ws=[]->Q (.ref t) s) (h2:ws≠[]->Q (.ref s.heap.objs.size) { s with heap:=s.heap.push { cls:=.type "tuple",data:=.seq (vs++ws).toArray } })
  (hsz:vs.length+ws.length<=qAg):qBs (qCb prog w) A (qEu .Add (.ref t) (.ref b)) Q E s:=by
 obtain⟨⟨cls,dd,data,sl⟩,ho,hc,n,hd⟩:=id ht;obtain⟨⟨cls2,dd2,data2,sl2⟩,ho2,hc2,n2,hd2⟩:=id hb;simp only at hc hd hc2 hd2;subst hc hd hc2 hd2;have e:vs.toArray++ws.toArray=(vs++ws).toArray:=by simp
 by_cases hw:ws=[]
 .exact concat_meets ⟨_,ho,rfl⟩ ⟨_,ho2,rfl⟩ noFill_tuple_add seq_tuple_add qKh qKc (qJw _ _)
   (tuple_addW1 t b vs.toArray ws.toArray n n2 dd dd2 sl sl2 (by simpa using hv) (by simp[hw])) ⟨ho,ho2,h1 hw⟩
 .refine concat_meets ⟨_,ho,rfl⟩ ⟨_,ho2,rfl⟩ noFill_tuple_add seq_tuple_add qKh qKc (qJw _ _)
   (tuple_addW2 t b vs.toArray ws.toArray n n2 dd dd2 sl sl2 (by simpa using hv) (by simpa using hw) (by rw[qBc,qBc];exact hsz)) ⟨ho,ho2,?_⟩
  rw[e];exact h2 hw
def fJ(n d:Nat):Option Int->Nat
 | none=>d
 | some v=>if v<0 then (v+(n:Int)).toNat else min v.toNat n
theorem vE(n d:Nat):fJ n d none=d:=rfl
theorem zT(n d k:Nat):fJ n d (some (k:Int))=min k n:=by
 show(if (k:Int)<0 then ((k:Int)+(n:Int)).toNat else min (k:Int).toNat n)=min k n;rw[if_neg (by lia),qBv]
theorem Im(n d:Nat)(hd:d<=n)(o:Option Int):fJ n d o<=n:=by
 cases o with
 | none=>exact hd
 | some v =>
  show(if v<0 then (v+(n:Int)).toNat else min v.toNat n)<=n;by_cases hv:v<0
  .rw[if_pos hv];lia
  .rw[if_neg hv];exact Nat.min_le_right _ _
theorem zU(v:Int)(n d:Nat):(if v<0 then max (v+(n:Int)) 0 else min v (n:Int))=((fJ n d (some v):Nat):Int):=by
 show(if v<0 then max (v+(n:Int)) 0 else min v (n:Int))=(((if v<0 then (v+(n:Int)).toNat else min v.toNat n):Nat):Int);by_cases hv:v<0
 .simp only[if_pos hv];lia
 .simp only[if_neg hv];lia
theorem yF(lo hi:Option Int)(n:Nat):Builtin.Slice.sliceAdjust lo hi 1 (n:Int)=(((fJ n 0 lo:Nat):Int),((fJ n n hi:Nat):Int)):=by
 have h1:¬((1:Int)<0):=by lia
 delta Builtin.Slice.sliceAdjust;simp only[h1,if_false];refine Prod.ext ?_ ?_
 .cases lo with
  | none=>rfl
  | some v=>exact zU v n 0
 .cases hi with
  | none=>rfl
  | some v=>exact zU v n n
theorem yG(i j:Nat):Builtin.Slice.slicePlaces (i:Int) (j:Int) 1=j-i:=by
 delta Builtin.Slice.slicePlaces;have h1:(1:Int)>0:=by lia
 simp only[h1,if_true,Int.ediv_one];split <;> lia
theorem pB(p:qJv v o)(h:Q o s):qBs (qCb prog w) A (Builtin.Slice.slicePartIndex v) Q E s:=by
 cases p with
 | none=>exact slicePart_none h
 | int i t=>exact slicePart_int h
theorem iL{sl:Addr}{vl vu:qAi}{lo hi:Option Int}{n:Nat}{Q:Int×Int×Nat->qAp->Prop}(hs:s.heap.IsSliceOf sl vl vu .none)(pl:qJv vl lo)(pu:qJv vu hi)
  (h:Q (((fJ n 0 lo:Nat):Int),1,fJ n n hi-fJ n 0 lo) s):qBs (qCb prog w) A (Builtin.Slice.sliceApplied (.ref sl) (pure (n:Int))) Q E s:=by
 obtain⟨os,hos,hcs,hds⟩:=id hs;delta Builtin.Slice.sliceApplied Builtin.Slice.sliceFields;refine qAd (qAd (wpAny_field hos hds (x:=vl) rfl (qAd (wpAny_field hos hds (x:=vu) rfl (qAd (wpAny_field hos hds (x:=.none) rfl (qAm ?_)))))));refine qAd (slicePart_none ?_);show qBs _ _ (if ((1:Int) == 0)=true then _ else _) _ _ s;rw[if_neg (by decide)];refine qAd (pB pl (qAd (pB pu (qAd (qAm ?_)))));show qBs _ _ (match Builtin.Slice.sliceAdjust lo hi 1 (n:Int) with | (lo,hi)=>pure (lo,(1:Int),Builtin.Slice.slicePlaces lo hi 1)) _ _ s
 rw[yF lo hi n];show qBs _ _ (pure (((fJ n 0 lo:Nat):Int),(1:Int),Builtin.Slice.slicePlaces ((fJ n 0 lo:Nat):Int) ((fJ n n hi:Nat):Int) 1)) _ _ s;rw[yG];exact qAm h
theorem Cs(xs:Array qAi)(i k:Nat):((qAh k).filterMap fun(m:Nat)=>xs[((i:Int)+(m:Int)*1).toNat]?).toArray=((xs.toList.drop i).take k).toArray:=by
 have e:(fun(m:Nat)=>xs[((i:Int)+(m:Int)*1).toNat]?)=fun m=>xs[i+m]?:=by
  funext m
  have:((i:Int)+(m:Int)*1).toNat=i+m:=by lia
  rw[this]
 rw[e];have:=pick_run xs i k;rw[qDg] at this;have e2:((fun x=>xs[x]?)∘fun x=>i+x)=fun m=>xs[i+m]?:=rfl;rw[e2] at this;rw[this]
theorem lC{t sl:Addr}{items:Array qAi}{vl vu:qAi}{lo hi:Option Int}{Q:qAi->qAp->Prop}(ht:qNw s.heap t items)(hs:s.heap.IsSliceOf sl vl vu .none)(pl:qJv vl lo)(pu:qJv vu hi)
  (hw:¬(fJ items.size 0 lo=0/\fJ items.size items.size hi=items.size))
  (h:Q (.ref s.heap.objs.size) { s with heap:=s.heap.push { cls:=.type "tuple",data:=.seq ((items.toList.drop (fJ items.size 0 lo)).take (fJ items.size items.size hi-fJ items.size 0 lo)).toArray } })
  (hsz:items.size<=qAg):qBs (qCb prog w) A (qId (.ref t) (.ref sl)) Q E s:=by
 have htake:sizeOk (.seq ((items.toList.drop (fJ items.size 0 lo)).take (fJ items.size items.size hi-fJ items.size 0 lo)).toArray):=by
  show((items.toList.drop (fJ items.size 0 lo)).take (fJ items.size items.size hi-fJ items.size 0 lo)).toArray.size<=qAg;rw[qBc,qEl,qDn,qCa];lia
 have hj:fJ items.size items.size hi<=items.size:=Im _ _ (qAl _) hi;obtain⟨os,hos,hcs,hds⟩:=id hs;have hTs:s.TypeIs (.ref sl) "slice":=⟨os,hos,hcs⟩;delta qId;try with_reducible refine qCm ?_
 first | refine qAd (qAm ?_) | skip
 refine qAd (wpAny_sequenceKey ht.typeIs #[1] ?_);refine qAd (qGd (name:=Str.ofString "__getitem__") ht.typeIs qEj
  (qFs qEj ht.typeIs entry_tuple_getitem ?_ (args_tuple_getitem _ _)))
 show qBs _ _ (Builtin.Tuple.tupleItemsOf (.ref t) >>= _) _ _ s;refine qAd (tupleItemsOf_ ht ?_);refine qAd (wpAny_typeOf hTs ?_);rw[if_pos (by decide)];refine qAd (iL hs pl pu ?_);have hno:¬((((fJ items.size 0 lo:Nat):Int) == 0&&(1:Int) == 1&&(fJ items.size items.size hi-fJ items.size 0 lo) == items.size)=true):=by
  intro q;rw[qAv,qAv] at q;have q1:((fJ items.size 0 lo:Nat):Int)=0:=eq_of_beq q.1.1;have q2:fJ items.size items.size hi-fJ items.size 0 lo=items.size:=eq_of_beq q.2;exact hw ⟨by lia,by lia⟩
 show qBs _ _ (if (((fJ items.size 0 lo:Nat):Int) == 0&&(1:Int) == 1&&(fJ items.size items.size hi-fJ items.size 0 lo) == items.size)=true then _ else _) _ _ s;rw[if_neg hno,Cs];first
  | exact qAd (m:=Builtin.Tuple.tupleExact _) (qDr (qAm ⟨_,rfl,qAm h⟩) htake)
  | exact qAd (m:=Builtin.Tuple.tupleExact _) (qDr (qAd (qAm (qAm ⟨_,rfl,qAm h⟩))) htake)
  | exact qAd (qAd (m:=Builtin.Tuple.tupleExact _) (qDr (qAm (qAm ⟨_,rfl,qAm h⟩)) htake))
  | exact qAd (qAd (m:=Builtin.Tuple.tupleExact _) (qDr (qAm ⟨_,rfl,qAm h⟩) htake))
end
end HT
namespace L2
open PySem PySem.Spec PyProof.Rows
abbrev TO:=St->Hp->(Option Int->Hp->Prop)->Prop
def PO(X:Cx)(e:Option Expr)(t:TO):Prop :=
 ∀(pins:List (Addr×Obj)) (s:qAp) (σ:St) (H:Hp) (Q:Option Int->Hp->Prop),Inv X pins σ H s->t σ H Q ->
  qBs (qCb X.prog X.w) X.A (evalPart e X.env) (fun u s'=>∃o H',Inv X pins σ H' s'/\qJv u o/\Q o H') X.xe s
def EV:TO:=fun _ H Q=>Q none H
def MM(t:TE):TO:=fun σ H Q=>t σ H fun x H1=>∃i,x = .int i/\Q (some i) H1
theorem intsAre_of:∀{us:List qAi},Vals (ns.map V.int) us->qFe us ns:=by
 induction ns with
 | nil=>intro us r;rw[qEn] at r;cases r;exact .nil
 | cons n ns ih =>
  intro us r;rw[qBa] at r;cases r with
  | cons r1 r2 =>
   obtain⟨t,e⟩:=r1;subst e;exact .cons n t (ih r2)
section
variable {X:Cx}{e:Expr}{te:TE}{lo hi:Option Expr}{tl th:TO}{pos p2:Pos}
theorem eP:PO X none EV:=by
 intro pins s σ H Q I h;rw[evalPart_none];exact qAm ⟨none,H,I,.none,h⟩
theorem eQ(h:PE X e te):PO X (some e) (MM te):=by
 intro pins s σ H Q I hw;rw[evalPart_some];refine cA (h pins s σ H _ I hw) fun u s1 z9=>?_;obtain⟨x,H1,I1,r1,q1⟩:=z9;obtain⟨i,rfl,q⟩:=q1;obtain⟨t,rfl⟩:=r1;exact⟨some i,H1,I1,.int i t,q⟩
def LO(X:Cx)(r:V->Option Int->Option Int->Hp->VK->Prop):Prop :=
 ∀(pins:List (Addr×Obj)) (s:qAp) (σ:St) (H:Hp) (x:V) (v vl vu:qAi) (lo hi:Option Int) (sl:Addr) (Q:VK),Inv X pins σ H s->RelV x v->s.heap.IsSliceOf sl vl vu .none->qJv vl lo->qJv vu hi->r x lo hi H Q ->
  ∃T id,typeLookup (.type T) "__getitem__"=pure (some (.builtin id))/\s.TypeIs v T/\qBs (qCb X.prog X.w) X.A (qId v (.ref sl)) (EP X pins σ Q) X.xe s
def Se(r:V->Option Int->Option Int->Hp->VK->Prop)(te:TE)(tl th:TO):TE:=fun σ H Q=>te σ H fun x H1=>tl σ H1 fun l H2=>th σ H2 fun u H3=>r x l u H3 Q
theorem dP(hr:LO X r)(he:PE X e te)(hl:PO X lo tl)(hu:PO X hi th):PE X (.Subscript e (.Slice lo hi none p2) pos) (Se r te tl th):=by
 intro pins s σ H Q I h;refine Subscript_ (cA (he pins s σ H _ I h) fun v s1 z9=>?_);obtain⟨x,H1,I1,r1,q1⟩:=z9;refine wpAny_Slice (cA (hl pins s1 σ H1 _ I1 q1) fun vl s2 ⟨l,H2,I2,pl,q2⟩=>cA (hu pins s2 σ H2 _ I2 q2) fun vu s3 z9=>?_);obtain⟨u,H3,I3,pu,q3⟩:=z9;rw[evalPart_none];refine qAm ?_;have I4:Inv X pins σ H3 { s3 with heap:=s3.heap.push { cls:=.type "slice",data:=.fields #[vl,vu,.none] } }:=I3.kept (t':=s3.toks) fun b ob q=>qAk _ q;obtain⟨T,id,hT,ht,hg⟩:=hr pins { s3 with heap:=s3.heap.push { cls:=.type "slice",data:=.fields #[vl,vu,.none] } } σ H3 x v vl vu l u s3.heap.objs.size Q I4 r1 (Heap.IsSliceOf.new ..) pl pu q3;show qBs (qCb X.prog X.w) X.A (subscriptTail e (.Slice lo hi none p2) v (.ref s3.heap.objs.size)) (EP X pins σ Q) X.xe { s3 with heap:=s3.heap.push { cls:=.type "slice",data:=.fields #[vl,vu,.none] } };exact tail_any (ops:=[.ref s3.heap.objs.size,v]) ht hT hg #[7]
def gH(xs:List V)(lo hi:Option Int):List V:=(xs.drop (HT.fJ xs.length 0 lo)).take (HT.fJ xs.length xs.length hi-HT.fJ xs.length 0 lo)
theorem nK(xs:List V)(lo hi:Option Int):(gH xs lo hi).length<=xs.length:=by
 delta gH;rw[qEl,qDn];lia
def Qg(K:qAb):V->Option Int->Option Int->Hp->VK->Prop:=fun x lo hi H Q=>∃a xs,x = .ref a/\cQ K H a xs /\
 ¬(HT.fJ xs.length 0 lo=0/\HT.fJ xs.length xs.length hi=xs.length)/\∀p,H p=none->Q (.ref p) (upd H p (.tup (gH xs lo hi)))
theorem Io:LO X (Qg X.K):=by
 intro pins s σ H x v vl vu lo hi sl Q I rx hs pl pu h;obtain⟨a,xs,rfl,hx,hw,q⟩:=h;cases rx;obtain⟨its,r,ht,hz⟩:=I.tuple hx;have hlen:its.toArray.size=xs.length:=by rw[qBc];exact r.length.symm
 exists "tuple",_,PyProof.Rows.slot_tuple_getitem.lookup,ht.typeIs;refine HT.lC ht hs pl pu (by rw[hlen];exact hw) ?_ (by rw[hlen];exact hz);rw[hlen];refine⟨.ref s.heap.objs.size,_,I.laid (t':=s.toks) (o:=.tup (gH xs lo hi)) (fun b ob q=>qAk _ q) (qAl _) ?_,rfl,q _ (I.cK.fresh (qAl _))⟩;exact⟨qAx (nK xs lo hi) hz,_,(r.drop (HT.fJ xs.length 0 lo)).take (HT.fJ xs.length xs.length hi-HT.fJ xs.length 0 lo),IsTup.new _ _⟩
def MN(K:qAb):R2:=fun x y H Q=>∃a b xs ys,x = .ref a/\y = .ref b/\cQ K H a xs/\cQ K H b ys/\xs≠[]/\xs.length+ys.length<=qAg /\
 (ys=[]->Q (.ref a) H)/\(ys≠[]->∀p,H p=none->Q (.ref p) (upd H p (.tup (xs++ys))))
theorem Vals.tF(r:Vals xs us):us=[]↔xs=[]:=by
 cases r with
 | nil=>simp
 | cons _ _=>simp
theorem EW:hU X (qEu .Add) (MN X.K):=by
 intro pins s σ H x y v u Q I rx ry h;obtain⟨a,b,xs,ys,rfl,rfl,ha,hb,hx,hz,q1,q2⟩:=h;cases rx;cases ry;obtain⟨its,r1,p1,_⟩:=I.tuple ha;obtain⟨its2,r2,p2,_⟩:=I.tuple hb;refine HT.EU p1 p2 (fun z=>hx (r1.tF.mp z)) (fun z=>⟨.ref a,H,I,rfl,q1 (r2.tF.mp z)⟩) (fun z=>?_) (by rw[<- r1.length,<- r2.length];exact hz);refine⟨.ref s.heap.objs.size,_,I.laid (t':=s.toks) (o:=.tup (xs++ys)) (fun b ob q=>qAk _ q) (qAl _) ?_,rfl,q2 (fun w=>z (r2.tF.mpr w)) _ (I.cK.fresh (qAl _))⟩;exact⟨by rw[qAo];exact hz,_,r1.append r2,IsTup.new _ _⟩
end
def Ct(n:Nat)(i:Int):Option Nat:=if 0<=i then (if i<n then some i.toNat else none) else if -(n:Int)<=i then some (i+n).toNat else none
def fM{α:Type}(xs:List α)(i:Int):Option α:=(Ct xs.length i).bind fun j=>xs[j]?
theorem zV(h:Ct n i=some j):seqIndex? i n=some j/\j<n/\-(n:Int)<=i/\i<n:=by
 delta Ct at h;by_cases h0:0<=i
 .rw[if_pos h0] at h;by_cases h1:i<n
  .rw[if_pos h1] at h;have e:i.toNat=j:=Option.some.inj h;exact⟨by rw[seqIndex_of h0 h1,e],by lia,by lia,h1⟩
  .rw[if_neg h1] at h;cases h
 .rw[if_neg h0] at h;by_cases h1:-(n:Int)<=i
  .rw[if_pos h1] at h;have e:(i+n).toNat=j:=Option.some.inj h;exact⟨by rw[seqIndex_neg (by lia) h1,e],by lia,h1,by lia⟩
  .rw[if_neg h1] at h;cases h
theorem tH(h:fM xs i=some v):∃j,seqIndex? i xs.length=some j/\xs[j]?=some v/\j<xs.length/\-(xs.length:Int)<=i/\i<xs.length:=by
 delta fM at h;cases e:Ct xs.length i with
 | none=>rw[e] at h;cases h
 | some j =>
  rw[e] at h;obtain⟨h1,h2,h3,h4⟩:=zV e;exact⟨j,h1,h,h2,h3,h4⟩
theorem bS{α:Type}{xs:List α}{j:Nat}{v:α}(h:xs[j]?=some v):fM xs (j:Int)=some v:=by
 have hj:j<xs.length:=(List.getElem?_eq_some_iff.mp h).1;have e:Ct xs.length (j:Int)=some j:=by
  delta Ct;rw[if_pos (by lia),if_pos (by lia)];simp
 delta fM;rw[e];exact h
def EX(b:Expr):Prop:=∀o i,qLa b false o i=operate [o,i] (qId o i)
def Ip(X:Cx)(r:R2):Prop :=
 ∀(value slice:Expr) (pins:List (Addr×Obj)) (s:qAp) (σ:St) (H:Hp) (x y:V) (v u:qAi) (Q:VK),Inv X pins σ H s->RelV x v->RelV y u->r x y H Q ->
  qLa slice false v u=operate [v,u] (qId v u)->qBs (qCb X.prog X.w) X.A (subscriptTail value slice v u) (EP X pins σ Q) X.xe s
def Iq(X:Cx)(id:String)(r:V->List V->Hp->VK->Prop):Prop :=
 ∀(pins:List (Addr×Obj)) (s:qAp) (σ:St) (H:Hp) (x:V) (xs:List V) (v:qAi) (us:List qAi) (Q:VK),Inv X pins σ H s->RelV x v->Vals xs us->r x xs H Q ->
  qBs (qCb X.prog X.w) X.A (call (.builtin id) (v::us)) (EP X pins σ Q) X.xe s
section
variable {X:Cx}{a b:Expr}{ta tb:TE}{pos:Pos}
theorem aX(hr:Ip X r)(ha:PE X a ta)(hb:PE X b tb)(hs:EX b):PE X (.Subscript a b pos) (LM r ta tb):=by
 intro pins s σ H Q I h;exact Subscript_ (Ig ha hb I h fun v u s2 x y H2 I2 rx ry q=>hr a b pins s2 σ H2 x y v u Q I2 rx ry q (hs _ _))
def MP(K:qAb):R2:=fun x y H Q=>∃p xs i v,x = .ref p/\y = .int i/\aV K H p xs/\fM xs i=some v/\Q v H
def MQ(K:qAb):R2:=fun x y H Q=>∃p xs i v,x = .ref p/\y = .int i/\cQ K H p xs/\fM xs i=some v/\Q v H
def Qh:R2:=fun x y H Q=>∃z i c,x = .str z/\y = .int i/\z.length<=qAg/\fM z.cps.toList i=some c/\Q (.str ⟨#[c]⟩) H
theorem bF:Ip X (MP X.K):=by
 intro value slice pins s σ H x y v u Q I rx ry h hs;obtain⟨p,xs,i,z,rfl,rfl,hq,he,q⟩:=h;cases rx;obtain⟨t,rfl⟩:=ry;obtain⟨its,r,pl,hz⟩:=I.list hq;obtain⟨j,h1,h2,h3,h4,h5⟩:=tH he;obtain⟨w,ew,rw'⟩:=r.get h2;have hl:=r.length;have hn:=mM;have fin:EP X pins σ Q w s:=⟨z,H,I,rw',q⟩;by_cases h0:0<=i
 .have hj:i.toNat=j:=by
   rw[seqIndex_of h0 h5] at h1;exact Option.some.inj h1
  exact item_listR pl.isList h0 (by lia) (by rw[hj];simpa using ew) fin hs
 .have hj:(i+(its.toArray.size:Int)).toNat=j:=by
   rw[seqIndex_neg (by lia) h4] at h1;rw[qBc,<- hl];exact Option.some.inj h1
  exact subscriptTail_builtinR (x:=w) pl.isList.typeIs slot_list_getitem.lookup
   (wpAny_getItem_list_neg (Q:=fun r s'=>r=w/\EP X pins σ Q r s') pl.isList (by lia) (by rw[qBc] <;> lia) (by lia) (by rw[hj];simpa using ew) ⟨rfl,fin⟩) hs
theorem bL:Ip X (MQ X.K):=by
 intro value slice pins s σ H x y v u Q I rx ry h hs;obtain⟨p,xs,i,z,rfl,rfl,hq,he,q⟩:=h;cases rx;obtain⟨t,rfl⟩:=ry;obtain⟨its,r,pl,hz⟩:=I.tuple hq;obtain⟨j,h1,h2,h3,h4,h5⟩:=tH he;obtain⟨w,ew,rw'⟩:=r.get h2;have hl:=r.length;have hn:=mM;have fin:EP X pins σ Q w s:=⟨z,H,I,rw',q⟩;exact subscriptTail_builtinR (x:=w) pl.typeIs slot_tuple_getitem.lookup
  (getItem_tuple (j:=j) (Q:=fun r s'=>r=w/\EP X pins σ Q r s') pl (by lia) (by lia) (by rw[qBc,<- hl];exact h1) (by simpa using ew) ⟨rfl,fin⟩) hs
theorem tI:Ip X Qh:=by
 intro value slice pins s σ H x y v u Q I rx ry h hs;obtain⟨z,i,c,rfl,rfl,hz,he,q⟩:=h;obtain⟨t,rfl⟩:=rx;obtain⟨t',rfl⟩:=ry;obtain⟨j,h1,h2,h3,h4,h5⟩:=tH he;have hl:z.cps.toList.length=z.length:=by simp[Str.length]
 rw[hl] at h1 h4 h5;have hn:=mM;exact tail_any (typeIs_str s z t) slot_str_getitem.lookup (getItem_str (c:=c) (by
  have e1:decide (i < -(2^63:Int))=false:=decide_eq_false (by lia);have e2:decide (i≥2^63)=false:=decide_eq_false (by lia);rw[e1,e2,qKo]) (by rw[h1];simpa using h2) ⟨.str ⟨#[c]⟩,H,I.tok _,⟨_,rfl⟩,q⟩) hs
theorem yH(its:List qAi)(n j:Nat)(u:qAi):Obj.mapSeq (·.setIfInBounds j u) { cls:=.type "list",data:=.seq its.toArray n }={ cls:=.type "list",data:=.seq (its.set j u).toArray n }:=by
 simp[Obj.mapSeq]
theorem Inv.lst(I:Inv X pins σ H s)(h:H p=some (.lst xs)):
  ∃(its:List qAi) (n:Nat),Vals xs its/\s.heap.get? p=some { cls:=.type "list",data:=.seq its.toArray n }/\xs.length<=qAg:=by
 obtain⟨z,its,n,r,e⟩:=I.cK p _ h;exact⟨its,n,r,e,z⟩
theorem Inv.Ir{pins:List (Addr×Obj)}{σ:St}{H:Hp}{s:qAp}{p:Addr}{xs ys:List V}{its its':List qAi}{n n':Nat}{f:Obj->Obj}(I:Inv X pins σ H s)(h:H p=some (.lst xs))
  (ho:s.heap.get? p=some { cls:=.type "list",data:=.seq its.toArray n }) (hf:f { cls:=.type "list",data:=.seq its.toArray n }={ cls:=.type "list",data:=.seq its'.toArray n' }) (r:Vals ys its') (hz:ys.length<=qAg) (t:Nat) :
  Inv X pins σ (upd H p (.lst ys)) { s with heap:=s.heap.update p f,toks:=t }:=by
 have e:(s.heap.update p f).get? p=some { cls:=.type "list",data:=.seq its'.toArray n' }:=by
  rw[qLh f ho (by rw[hf] <;> rfl),hf]
 refine I.write (x:=p) (e:=p) (by rw[h];trivial) (.inl rfl) (fun b u hb q=>(qKx _ _ (Ne.symm hb)).trans q) ⟨_,e⟩ ?_;exact⟨hz,its',n',r,e⟩
def MS:V->V->V->Hp->(Hp->Prop)->Prop:=fun o i v H Q=>∃p xs k j,o = .ref p/\i = .int k/\H p=some (.lst xs)/\Ct xs.length k=some j/\Q (upd H p (.lst (xs.set j v)))
theorem set_list:HZ X MS:=by
 intro pins s σ H o i v ov iv u Q I ro ri rv h;obtain⟨p,xs,k,j,rfl,rfl,hp,hj,q⟩:=h;cases ro;obtain⟨t,rfl⟩:=ri;obtain⟨its,n,r,ho,hz⟩:=I.lst hp;obtain⟨h1,h2,h3,h4⟩:=zV hj;have hl:=r.length;have hn:=mM;have I':Inv X pins σ (upd H p (.lst (xs.set j v))) { s with heap:=s.heap.update p (Obj.mapSeq (·.setIfInBounds j u)) } :=
  I.Ir hp ho (yH its n j u) (r.set rv j) (by rw[qJz];exact hz) s.toks
 by_cases h0:0<=k
 .have hk:k.toNat=j:=by
   rw[seqIndex_of h0 h4] at h1;exact Option.some.inj h1
  exact PySem.W.ki_setAt ho h0 (by lia) (by rw[qBc,<- hl];exact h4) (by rw[hk];exact⟨_,I',q⟩)
 .have hk:(k+(its.toArray.size:Int)).toNat=j:=by
   rw[seqIndex_neg (by lia) h3] at h1;rw[qBc,<- hl];exact Option.some.inj h1
  exact PySem.W.ki_setBack ho (by lia) (by rw[qBc,<- hl];exact h3) (by lia) (by rw[hk];exact⟨_,I',q⟩)
theorem tJ(lo hi:Option Int)(n:Nat):(qGy lo hi none n).1=((HT.fJ n 0 lo:Nat):Int)/\(qGy lo hi none n).2.1=((HT.fJ n n hi:Nat):Int)/\(qGy lo hi none n).2.2=1:=by
 refine⟨?_,?_,rfl⟩
 .cases lo with
  | none=>simp[qGy,HT.fJ]
  | some i =>
   simp only[qGy,HT.fJ,qLy,show(1:Int)>0 by decide,if_true];by_cases h:i<0
   .simp only[h,if_true] <;> lia
   .simp only[h,if_false] <;> lia
 .cases hi with
  | none=>simp[qGy,HT.fJ]
  | some i =>
   simp only[qGy,HT.fJ,qLy,show(1:Int)>0 by decide,if_true];by_cases h:i<0
   .simp only[h,if_true] <;> lia
   .simp only[h,if_false] <;> lia
theorem qR(its:List qAi)(lo hi:Option Int):slicePick its.toArray lo hi none=((its.drop (HT.fJ its.length 0 lo)).take (HT.fJ its.length its.length hi-HT.fJ its.length 0 lo)).toArray:=by
 obtain⟨h1,h2,h3⟩:=tJ lo hi its.toArray.size;delta slicePick;rw[h1,h2,h3];simp only[sliceRange_one,pick_run,qBc] <;> rfl
def Qi(K:qAb):V->Option Int->Option Int->Hp->VK->Prop:=fun x lo hi H Q=>∃a xs,x = .ref a/\aV K H a xs/\∀p,H p=none->Q (.ref p) (upd H p (.lst (gH xs lo hi)))
theorem gP:LO X (Qi X.K):=by
 intro pins s σ H x v vl vu lo hi sl Q I rx hs pl pu h;obtain⟨a,xs,rfl,hx,q⟩:=h;cases rx;obtain⟨its,r,ht,hz⟩:=I.list hx;have hlen:=r.length;exists "list",_,slot_list_getitem.lookup,ht.isList.typeIs;refine wpAny_getItem_list_slice ht.isList hs pl pu .none (by simp) ?_ (by rw[qBc] <;> lia);rw[qR,<- hlen];refine⟨.ref s.heap.objs.size,_,I.laid (t':=s.toks) (o:=.lst (gH xs lo hi)) (fun b ob q=>qAk _ q) (qAl _) ?_,rfl,q _ (I.cK.fresh (qAl _))⟩;exact⟨qAx (nK xs lo hi) hz,_,0,(r.drop (HT.fJ xs.length 0 lo)).take (HT.fJ xs.length xs.length hi-HT.fJ xs.length 0 lo),qAz _ rfl⟩
def kH:V->Bool
 | .non=>true
 | .bl _=>true
 | .int _=>true
 | .str _=>true
 | _=>false
def EY:V->V->Bool
 | .non,.non=>true
 | .bl a,.bl b=>a == b
 | .bl a,.int b=>(if a then 1 else 0) == b
 | .int a,.bl b=>a == (if b then 1 else 0)
 | .int a,.int b=>a == b
 | .str a,.str b=>a == b
 | _,_=>false
theorem Iu(ry:RelV y u)(rx:RelV x v)(fy:kH y=true)(fx:kH x=true):SeqAt.EqAt A s u v (EY y x):=by
 cases y with
 | non =>
  cases ry
  cases x with
  | non=>cases rx;exact SeqAt.EqAt.same _
  | bl b=>cases rx;exact SeqAt.EqAt.none_bool b
  | int b=>obtain⟨t,rfl⟩:=rx;exact SeqAt.EqAt.none_int b t
  | str b=>obtain⟨t,rfl⟩:=rx;exact SeqAt.EqAt.none_str b t
  | _=>exact absurd (show false=true from fx) qAn
 | bl a =>
  cases ry
  cases x with
  | non=>cases rx;exact SeqAt.EqAt.bool_none a
  | bl b=>cases rx;exact SeqAt.EqAt.bool_bool a b
  | int b=>obtain⟨t,rfl⟩:=rx;exact SeqAt.EqAt.bool_int a b t
  | str b=>obtain⟨t,rfl⟩:=rx;exact SeqAt.EqAt.bool_str a b t
  | _=>exact absurd (show false=true from fx) qAn
 | int a =>
  obtain⟨t',rfl⟩:=ry;cases x with
  | non=>cases rx;exact SeqAt.EqAt.int_none a t'
  | bl b=>cases rx;exact SeqAt.EqAt.int_bool a t' b
  | int b=>obtain⟨t,rfl⟩:=rx;exact SeqAt.EqAt.int_int a t' b t
  | str b=>obtain⟨t,rfl⟩:=rx;exact SeqAt.EqAt.int_str a t' b t
  | _=>exact absurd (show false=true from fx) qAn
 | str a =>
  obtain⟨t',rfl⟩:=ry;cases x with
  | non=>cases rx;exact SeqAt.EqAt.str_none a t'
  | bl b=>cases rx;exact SeqAt.EqAt.str_bool a t' b
  | int b=>obtain⟨t,rfl⟩:=rx;exact SeqAt.EqAt.str_int a t' b t
  | str b=>obtain⟨t,rfl⟩:=rx;exact SeqAt.EqAt.str_str a t' b t
  | _=>exact absurd (show false=true from fx) qAn
 | _=>exact absurd (show false=true from fy) qAn
def yI(x:V)(u:qAi):Bool:=match u with
 | .none=>EY .non x
 | .bool b=>EY (.bl b) x
 | .int i _=>EY (.int i) x
 | .str z _=>EY (.str z) x
 | _=>false
theorem Cu(r:RelV y u)(f:kH y=true):yI x u=EY y x:=by
 cases y with
 | non=>cases r;rfl
 | bl b=>cases r;rfl
 | int i=>obtain⟨t,rfl⟩:=r;rfl
 | str z=>obtain⟨t,rfl⟩:=r;rfl
 | _=>exact absurd (show false=true from f) qAn
theorem lD:∀{xs:List V}{us:List qAi},Vals xs us->xs.all kH=true->us.any (yI x)=xs.any fun y=>EY y x
 | _,_,.nil,_=>rfl
 | y::xs,u::us,.cons r t,f=>by
  rw[qNk,qAv] at f;rw[qFq,qFq,Cu r f.1,lD t f.2]
theorem jN(rx:RelV x v)(fx:kH x=true):∀{xs:List V}{us:List qAi},Vals xs us->xs.all kH=true->∀u∈us,SeqAt.EqAt A s u v (yI x u)
 | _,_,.nil,_=>fun u hu=>by cases hu
 | y::xs,u::us,.cons r t,f=>fun u' hu=>by
  rw[qNk,qAv] at f;rcases List.mem_cons.mp hu with rfl | hu
  .rw[Cu r f.1];exact Iu r rx f.1 fx
  .exact jN rx fx t f.2 u' hu
def BZ(x:V)(xs:List V):Bool:=xs.any fun y=>EY y x
def RK(K:qAb)(neg:Bool):R2:=fun x y H Q=>∃p xs,y = .ref p/\(aV K H p xs\/cQ K H p xs)/\kH x=true/\xs.all kH=true/\Q (.bl (if neg then !BZ x xs else BZ x xs)) H
theorem rS:hU X (qDd .In) (RK X.K false):=by
 intro pins s σ H x y v u Q I rx ry h;obtain⟨p,xs,rfl,hq,fx,fs,q⟩:=h;cases ry;rcases hq with hq | hq
 .obtain⟨its,r,pl,hz⟩:=I.list hq;refine SeqAt.in_listAt (yI x) pl.isList (fun w hw=>jN rx fx r fs w (by simpa using hw)) ⟨.bl _,H,I,rfl,?_⟩;rw[show its.toArray.any (yI x)=its.any (yI x) by simp,lD r fs];exact q
 .obtain⟨its,r,pl,hz⟩:=I.tuple hq;refine SeqAt.in_tupleAt (yI x) pl (fun w hw=>jN rx fx r fs w (by simpa using hw)) ⟨.bl _,H,I,rfl,?_⟩;rw[show its.toArray.any (yI x)=its.any (yI x) by simp,lD r fs];exact q
theorem jA:hU X (qDd .NotIn) (RK X.K true):=by
 intro pins s σ H x y v u Q I rx ry h;obtain⟨p,xs,rfl,hq,fx,fs,q⟩:=h;cases ry;rcases hq with hq | hq
 .obtain⟨its,r,pl,hz⟩:=I.list hq;refine SeqAt.notIn_listAt (yI x) pl.isList (fun w hw=>jN rx fx r fs w (by simpa using hw)) ⟨.bl _,H,I,rfl,?_⟩;rw[show its.toArray.any (yI x)=its.any (yI x) by simp,lD r fs];exact q
 .obtain⟨its,r,pl,hz⟩:=I.tuple hq;refine SeqAt.notIn_tupleAt (yI x) pl (fun w hw=>jN rx fx r fs w (by simpa using hw)) ⟨.bl _,H,I,rfl,?_⟩;rw[show its.toArray.any (yI x)=its.any (yI x) by simp,lD r fs];exact q
theorem aU:eZ X (.builtin "len") (fun xs H Q=>∃p ys,xs=[.ref p]/\(aV X.K H p ys\/cQ X.K H p ys)/\Q (.int ys.length) H):=by
 intro pins s σ H xs us Q I r h;obtain⟨p,ys,rfl,hq,q⟩:=h;obtain⟨u,rfl,rx⟩:=vals1 r;cases rx;have hn:=mM;rcases hq with hq | hq
 .obtain⟨its,r',pl,hz⟩:=I.list hq;have hlen:=r'.length;exact Calls.call_len_list pl.isList (by simp only[qBc] <;> lia) ⟨.int ys.length,H,I.tok _,⟨s.toks+1,by rw[qBc,hlen]⟩,q⟩
 .obtain⟨its,r',pl,hz⟩:=I.tuple hq;have hlen:=r'.length;exact len_tuple pl (by simp only[qBc] <;> lia) ⟨.int ys.length,H,I.tok _,⟨s.toks+1,by rw[qBc,hlen]⟩,q⟩
theorem lF:eZ X (.builtin "len") (fun xs H Q=>∃z,xs=[.str z]/\z.length<=qAg/\Q (.int z.length) H):=by
 intro pins s σ H xs us Q I r h;obtain⟨z,rfl,hz,q⟩:=h;obtain⟨u,rfl,t,rfl⟩:=vals1 r;have hn:=mM;exact len_str (by lia) ⟨.int z.length,H,I.tok _,⟨_,rfl⟩,q⟩
theorem dF:eZ X (.type "list") (fun xs H Q=>∃p ys,xs=[.ref p]/\(aV X.K H p ys\/cQ X.K H p ys)/\∀l,H l=none->Q (.ref l) (upd H l (.lst ys))):=by
 intro pins s σ H xs us Q I r h;obtain⟨p,ys,rfl,hq,q⟩:=h;obtain⟨u,rfl,rx⟩:=vals1 r;cases rx;have fin:∀(its:List qAi),Vals ys its->ys.length<=qAg->∀(h':Heap) (c':Nat),(∀b o',s.heap.get? b=some o'->h'.get? b=some o') ->
   h'.get? s.heap.objs.size=some { cls:=.type "list",dict:=none,data:=.seq its.toArray c',slots:=#[] }->EP X pins σ Q (.ref s.heap.objs.size) { s with heap:=h' }:=fun its r' hz h' c' kp e =>
  ⟨.ref s.heap.objs.size,_,I.laid (t':=s.toks) kp (qAl _) (show dO X.prog X.w _ h' _ (.lst ys) from⟨hz,its,c',r',e⟩),rfl,q _ (I.cK.fresh (qAl _))⟩
 rcases hq with hq | hq
 .obtain⟨its,r',pl,hz⟩:=I.list hq;have hlen:=r'.length;obtain⟨o,ho,hc,n,hd⟩:=pl.isList;exact call_list_seq p (.inl rfl) ho hc hd (fun h' c' kp e=>fin its r' hz h' c' kp e) (by simp only[qBc] <;> lia)
 .obtain⟨its,r',pl,hz⟩:=I.tuple hq;have hlen:=r'.length;obtain⟨o,ho,hc,n,hd⟩:=pl;exact call_list_seq p (.inr rfl) ho hc hd (fun h' c' kp e=>fin its r' hz h' c' kp e) (by simp only[qBc] <;> lia)
def RL(K:qAb)(T:String)(x:V)(H:Hp):Prop:=match x with
 | .str _=>T="str"
 | .int _=>T="int"
 | .ref p=>(T="list"/\∃xs,aV K H p xs)\/(T="tuple"/\∃o,K.lookup p=some o/\o.cls = .type "tuple"/\o.dict=none) \/
   (T="dict"/\((∃kvs,H p=some (.dK kvs))\/∃kvs,H p=some (.dT kvs)))\/(T="set"/\∃S n,H p=some (.set S n))
 | _=>False
theorem Iv(I:Inv X pins σ H s)(r:RelV x v)(ty:RL X.K T x H):
  s.TypeIs v T/\∀a,v = .ref a->∃ob,s.heap.get? a=some ob/\ob.dict=none:=by
 cases x with
 | str z =>
  obtain⟨t,rfl⟩:=r;cases (show T="str" from ty);exact⟨typeIs_str s z t,fun _ e=>nomatch e⟩
 | int i =>
  obtain⟨t,rfl⟩:=r;cases (show T="int" from ty);exact⟨typeIs_int s i t,fun _ e=>nomatch e⟩
 | ref p =>
  cases r
  rcases ty with ⟨rfl,xs,hq⟩ | ⟨rfl,o,hk,hc,hd⟩ | ⟨rfl,hk⟩ | ⟨rfl,S,n,hk⟩
  .obtain⟨its,_,pl,_⟩:=I.list hq;refine⟨pl.isList.typeIs,fun a e=>?_⟩;cases e;obtain⟨o,n,e,c,hd,_⟩:=pl;exact⟨o,e,hd⟩
  .refine⟨⟨o,I.qL p o hk,hc⟩,fun a e=>?_⟩;cases e;exact⟨o,I.qL _ o hk,hd⟩
  .have z:∃o,s.heap.get? p=some o/\o.ExactDict:=by
    rcases hk with ⟨kvs,hk⟩ | ⟨kvs,hk⟩
    .obtain⟨_,_,_,_,o,_,_,e,ex,_⟩:=I.cK p _ hk;exact⟨o,e,ex⟩
    .obtain⟨_,_,_,_,o,_,_,e,ex,_⟩:=I.cK p _ hk;exact⟨o,e,ex⟩
   obtain⟨o,e,ex⟩:=z;refine⟨⟨o,e,ex.1⟩,fun a e2=>?_⟩;cases e2;exact⟨o,e,ex.2.1⟩
  .obtain⟨o,_,_,_,e,ex,_⟩:=I.cK p _ hk;refine⟨⟨o,e,ex.1⟩,fun a e2=>?_⟩;cases e2;exact⟨o,e,ex.2.1⟩
 | _=>exact False.elim ty
def Qj(K:qAb)(T:String)(r:V->List V->Hp->VK->Prop)(to:TE)(t:TA):TE:=fun σ H Q=>to σ H fun x H1=>RL K T x H1/\t σ H1 fun xs H2=>r x xs H2 Q
variable {o e:Expr}{es:List Expr}{to:TE}{t:TA}{name:Str}{apos cpos:Pos}{T id:String}{r:V->List V->Hp->VK->Prop}
theorem eD(pa:PlainAttrs T)(slot:Slot T name id)(hty:typeOf (.builtin id)=pure (.type "method_descriptor"))(hm:Iq X id r)(ho:PE X o to)(ha:PA X (e::es) t)
  (hbase:attributeBase o name X.env (eval o X.env)=eval o X.env:=by rfl)
  (hfew:((qFb cpos (qBx (e::es) X.env)).all (fun x=>!x.1)&&(qGt cpos (qEw [] X.env)).all (fun x=>x.1.isSome)
   && decide ((e::es).length+([]:List qOs).length+(if ([]:List qOs).isEmpty then 0 else 1)<30))=true:=by rfl)
  (hline:(apos.endLine == cpos.line)=true:=by rfl) (hs:qBx (e::es) X.env=(false,eval e X.env)::qBx es X.env:=by rfl) (hplain:(qFb cpos (qBx es X.env)).any (·.1)=false:=by rfl) :
  PE X (.Call (.Attribute o name apos) (e::es) [] cpos) (Qj X.K T r to t):=by
 intro pins s σ H Q I h;refine wpAny_Call_method_late hbase hfew hline rfl (cA (ho pins s σ H _ I h) fun v s1 z9=>?_);obtain⟨x,H1,I1,r1,ty,q1⟩:=z9;obtain⟨h1,h2⟩:=Iv I1 r1 ty;exists T,id,pa,slot,hty,h1,h2;have hA:=ha cpos pins s1 σ H1 _ I1 q1;rw[hs] at hA|-;refine Calls.callWith_builtin (by show(false||(qFb cpos (qBx es X.env)).any (·.1))=false;rw[hplain] <;> rfl) (qLi ?_)
 exact cA hA (by rintro us s2 ⟨vs,H2,I2,r2,q2⟩;exact hm pins s2 σ H2 x vs v us Q I2 r1 r2 q2)
end
def RM(X:Cx)(id:String)(r:V->List V->Hp->VK->Prop):Prop :=
 ∀(pins:List (Addr×Obj)) (s:qAp) (σ:St) (H:Hp) (x:V) (xs:List V) (v:qAi) (us:List qAi) (Q:VK),Inv X pins σ H s->RelV x v->Vals xs us->r x xs H Q ->
  qBs (qCb X.prog X.w) X.A (call (.builtin id) (v::us)) (EP X pins σ Q) X.xe s
theorem Vals.one:∀{x:V}{us:List qAi},Vals [x] us->∃u,us=[u]/\RelV x u
 | _,_,.cons r .nil=>⟨_,rfl,r⟩
theorem Vals.rep(h:Vals xs us):∀k:Nat,Vals (qBq k xs).flatten (qBq k us).flatten
 | 0=>.nil
 | k+1=>by
  rw[qEi,qEi,qFz,qFz];exact Vals.append h (Vals.rep h k)
theorem foldl_rep(its:List qAi):∀(k:Nat) (acc:List qAi),
  qMl (fun x1 x2=>x1++x2) acc.toArray (qBq k its.toArray)=(acc++(qBq k its).flatten).toArray
 | 0,acc=>by simp
 | k+1,acc=>by
  have e:acc.toArray++its.toArray=(acc++its).toArray:=by simp
  have e2:(acc++its)++(qBq k its).flatten=acc++(qBq (k+1) its).flatten:=by
   rw[qEi,qFz,qDy]
  rw[<- e2,<- foldl_rep its k (acc++its),<- e,qEi,List.foldl_cons]
section
variable {X:Cx}{pins:List (Addr×Obj)}{σ:St}{H:Hp}{s:qAp}{l b:Addr}{xs ys zs:List V}
theorem Inv.Qk{its its':List qAi}{n:Nat}{f:Array qAi->Array qAi}{t':Nat}(I:Inv X pins σ H s)(hH:H l=some (.lst xs))
  (e:s.heap.get? l=some { cls:=.type "list",data:=.seq its.toArray n }) (hf:f its.toArray=its'.toArray) (hv:Vals ys its') (hz:ys.length<=qAg) :
  Inv X pins σ (upd H l (.lst ys)) { s with heap:=s.heap.update l (Obj.mapSeq f),toks:=t' }:=by
 have q:=PySem.IsL.update e f;rw[hf] at q;refine I.write (x:=l) (e:=l) (by rw[hH];exact trivial) (.inl rfl) (fun b' u hb hu=>(qKx s.heap (Obj.mapSeq f) (Ne.symm hb)).trans hu) ⟨_,q⟩ ?_;exact⟨hz,its',_,hv,q⟩
theorem Inv.MT(I:Inv X pins σ H s)(hv:Vals ys its)(hz:ys.length<=qAg):
  Inv X pins σ (upd H s.heap.objs.size (.lst ys)) { s with heap:=s.heap.push { cls:=.type "list",data:=.seq its.toArray },toks:=t' } :=
 I.laid (fun _ _ q=>qAk _ q) (qAl _) ⟨hz,its,0,hv,qAz _ rfl⟩
theorem Inv.fresh(I:Inv X pins σ H s):H s.heap.objs.size=none:=I.cK.fresh (qAl _)
theorem Inv.MU(I:Inv X pins σ H s)(hH:H l=some (.lst xs)):xs.length<=qAg/\∃(its:List qAi) (n:Nat),Vals xs its/\xs.length=its.length/\s.heap.get? l=some { cls:=.type "list",data:=.seq its.toArray n }:=by
 obtain⟨z,its,n,r,e⟩:=I.cK l _ hH;exact⟨z,its,n,r,r.length,e⟩
theorem Cv(h:n<=qAg):Builtin.List.listTooLong n=false:=by
 delta Builtin.List.listTooLong;exact decide_eq_false (by lia)
end
section
variable {X:Cx}
def tK:V->List V->Hp->VK->Prop:=fun x vs H Q=>∃l xs y,x = .ref l/\vs=[y]/\H l=some (.lst xs)/\xs.length<qAg/\Q .non (upd H l (.lst (xs++[y])))
theorem mQ:RM X "list.append" tK:=by
 intro pins s σ H x vs v us Q I rx rv h;obtain⟨l,xs,y,rfl,rfl,hH,hz,q⟩:=h;cases rx;obtain⟨u,rfl,ru⟩:=rv.one;obtain⟨z,its,n,r,hl,e⟩:=I.MU hH;refine qHr F.slot_list_append ⟨_,e,rfl⟩ F.entry_list_append (F.args_list_append_2 _ _) (PySem.list_append l its.toArray n u (by rw[qBc];lia)) ⟨e,?_⟩;refine⟨.non,_,I.Qk (its':=its++[u]) hH e (by simp) (r.append (.cons ru .nil)) ?_,rfl,q⟩;rw[qAo,qLe];lia
def Ql:R2:=fun x y H Q=>∃l k xs,x = .ref l/\y = .int k/\H l=some (.lst xs)/\-(2^63)<=k/\k<2^63/\xs.length*k.toNat<=qAg /\
 ∀p,H p=none->Q (.ref p) (upd H p (.lst (qBq k.toNat xs).flatten))
theorem len_rep(xs:List α)(k:Nat):(qBq k xs).flatten.length=k*xs.length:=by
 induction k with
 | zero=>simp
 | succ k ih=>rw[qEi,qFz,qAo,ih,qJi,Nat.add_comm]
theorem Cw:hU X (qEu .Mult) Ql:=by
 intro pins s σ H x y v u Q I rx ry h;obtain⟨l,k,xs,rfl,rfl,hH,h1,h2,hz,q⟩:=h;cases rx;obtain⟨t,rfl⟩:=ry;obtain⟨z,its,n,r,hl,e⟩:=I.MU hH;have hlen:its.toArray.size*k.toNat<=qAg:=by rw[qBc,<- hl];exact hz
 have hcap:¬its.toArray.size*k.toNat>(2^63-1)/8:=by
  have:(qAg:Nat)<=(2^63-1)/8:=by decide
  lia
 have hfit:¬(!Builtin.List.listFitsIndex k)=true:=by
  rw[fitsIndex_both h1 h2];exact qAn
 have hlong:¬Builtin.List.listTooLong (its.toArray.size*k.toNat)=true:=by
  rw[Cv hlen];exact qAn
 have hnew:qMl (fun x1 x2=>x1++x2) #[] (qBq (if its.toArray.isEmpty=true then 0 else k.toNat) its.toArray)=(qBq k.toNat its).flatten.toArray:=by
  have f0:∀m:Nat,qMl (fun x1 x2=>x1++x2) #[] (qBq m its.toArray)=(qBq m its).flatten.toArray:=fun m=>by
   have:=foldl_rep its m [];rw[qFo] at this;exact this
  rw[f0];cases its with
  | nil=>simp
  | cons a r'=>rw[if_neg (by simp)]
 refine wpAny_binaryOp_repeat_ref (T:="list") (U:="int") #[1] ⟨_,e,rfl⟩ (fun s'=>typeIs_int s' k t) noFill_list_mul F.fills_int_mul F.slot_int_rmul repeat_list F.slot_int_index.lookup
  (qHr F.slot_int_rmul (typeIs_int s k t) F.entry_int_rmul (F.args_int_rmul_2 _ _) (int___rmul___int_list k t l its.toArray n)
   ⟨e,rfl,⟨_,e,rfl⟩,qHr F.slot_list_mul ⟨_,e,rfl⟩ F.entry_list_mul (F.args_list_mul_2 _ _) (AutoListH.list___mul___list_int_3 l its.toArray n k t hfit hcap hlong) ⟨e,?_⟩⟩)
 rw[hnew];exact⟨.ref _,_,I.MT (t':=s.toks) (r.rep k.toNat) (by rw[len_rep,Nat.mul_comm];exact hz),rfl,q _ I.fresh⟩
end
section
variable {prog:qBl}{w:qCr}{A:qDf}{E:qAi->qAp->Prop}{s:qAp}
set_option maxRecDepth 100000 in
end
section
variable {X:Cx}
end
end L2
namespace Att
open PySem PySem.W PySem.Calls PyProof.Rows
theorem nY:∀(ns:List Int) (vs:List qAi),WellAll P h vs (ns.map WData.int)->qFe vs ns:=by
 intro ns;induction ns with
 | nil =>
  intro vs w;rw[qEn] at w;cases w;exact .nil
 | cons n ns ih =>
  intro vs w;rw[qBa] at w;cases w with
  | cons a b =>
   cases a
   exact .cons _ _ (ih _ b)
theorem AR{l:OpenLaw}{n:Nat}(hn:l.most=some n){P:Params}{h:Heap}{args:List WData}{vals:List qAi}
  (hpre:l.row.toRowW.claim.pre args=true) (hwl:WellAll P h vals args) :
  ∃a vs ns,vals=[Value.ref a]/\args=[WData.list (ns.map WData.int)]/\h.get? a=some { cls:=.type "list",data:=.seq vs.toArray }/\qFe vs ns/\ns.length<=n:=by
 have hsh:WShape.hasAll [] args [.list .int]=true:=(pre_splitW hpre).1;have hc:l.pre.holds [] { args:=args }=true:=(pre_splitW hpre).2;obtain⟨d,r,rfl,h1,h2⟩:=hasAllW_cons hsh;obtain rfl:=hasAllW_nil h2;obtain⟨xs,rfl,h3⟩:=hasW_list h1;obtain⟨ns,rfl⟩:=items_int h3;have hlen:ns.length<=n:=by
  delta OpenLaw.pre at hc;have h4:(WTm.not (.lt (.lit (.int (n:Int))) (.len (.arg 0)))).holds [] { args:=[.list (ns.map .int)] }=true:=by
   have h4:=(holds_andW hc).1;rw[hn] at h4;exact h4
  have h5:=condW_of h4 (w_not (w_lt w_lit (w_len_list (w_arg rfl))));rw[qAa] at h5;refine qMv fun q=>?_;have q':(n:Int)<((ns.length:Nat):Int):=by lia
  first
   | (rw[decide_eq_true q'] at h5;exact absurd h5 #[1])
   | (simp at h5;lia)
 cases hwl with
 | cons w1 w2 =>
  cases w2
  cases w1 with
  | list ho hall=>exact⟨_,_,ns,rfl,rfl,ho,nY ns _ hall,hlen⟩
theorem AS(l:OpenLaw)(args:List WData):l.row.toRowW.claim.post args (.bool true) args=true :=
 postW_of (r:=l.row.toRowW) (X:=(true == true))
  (show WShape.has [] (.bool true) .bool=true by first | rfl | decide | simp[WShape.has,WShape.arms,WShape.armsAll])
  (show(WTm.eq .res (.lit (.bool true))).value [] { args:=args,res:=some (.bool true),after:=args }=some (.bool (true == true)) from w_eq_bool (w_res rfl) w_lit) rfl
theorem vF{l:OpenLaw}{n:Nat}{q:qBl}{loose:List Str}{XP:(Str->Option qAi)->Heap->Prop}{YP:qCr->Heap->Prop}{d:DefRec}
  (hn:l.most=some n) (hdf:d.params.defaults=[])
  (call:∀(w:qCr) (s₀ s₁:qAp) (mg mb:Str->Option qAi) (fa:Addr) (o:Obj) (pm cd doc:qAi) (a:Addr) (vs:List qAi) (ns:List Int),
   Ground q loose [] XP w s₀ mg mb s₁.heap->YP w s₁.heap ->
   s₁.heap.get? fa=some o->o.data = .func (docDef d.name d.params d.body d.scope pm cd doc)->s₁.heap.CodeRec cd d.name->mg d.name=some (.ref fa) ->
   s₁.heap.get? a=some { cls:=.type "list",data:=.seq vs.toArray }->qFe vs ns->ns.length<=n->s₁.gens=#[] ->
   qHb (qCb l.prog w) qLc (.call (.ref fa) ⟨[.ref a],[]⟩) (fun r s'=>r = .ok (.ret (.bool true))/\OldK s₁.heap s'.heap/\s'.os=s₁.os/\qIs s'.gens) s₁) :
  WalkO q loose XP YP l.row.toRowW d [] (fun f vs=>PySem.call f vs):=by
 intro w s₀ s₁ mg mb G Y fa o pm cd doc dV kV ho hd hcd hD hmg hg args vals as hpre hlay hrd hwl hlo;obtain rfl:dV = .none:=Dflts.none hD hdf;obtain rfl:kV = .none:=Dflts.noKw hD;obtain⟨a,vs,ns,rfl,rfl,hobj,hints,hlen⟩:=AR hn hpre hwl;refine enter_call (qFy (call w s₀ s₁ mg mb fa o pm cd doc a vs ns G Y ho (fd_plain hd) hcd hmg hobj hints hlen hg) fun r s' hq=>?_);obtain⟨rfl,h2,h3,h4⟩:=hq;exact⟨.inl ⟨.bool true,.bool true,[],rfl,fun _=>rfl,.bool true,AS l _,fun _=>⟨List.Pairwise.nil,fun _ hm=>(nomatch hm)⟩⟩,h2,h3,h4⟩
section
variable {prog:qBl}{w:qCr}{A:qDf}{E:qAi->qAp->Prop}{s:qAp}{K:Frag}
end
end Att
namespace L2
open PySem PySem.Spec PyProof.Rows
theorem rT:∀{vs:List qAi}{ns:List Int},qFe vs ns->Vals (ns.map V.int) vs
 | _,_,.nil=>.nil
 | _,_,.cons n t h=>.cons ⟨t,rfl⟩ (rT h)
def Iw(H:Hp):Prop:=∀b,H b=none\/∃o xs,H b=some (.frz o (.lst xs))
theorem Cy{P:qBl}{w:qCr}{K:qAb}{mg mb:Str->Option qAi}{CX:zS}{k:Nat}{fa a:Addr}{fd:qCi}{x:Str}{sp:Sp}{s₁:qAp}{vs:List qAi}{ns:List Int}
  (KX:K.In s₁.heap) (hns:s₁.heap.Ns qBe mg) (hb:s₁.heap.Ns builtinsNs mb) (hbb:∀x:Str,x≠"__name__"->mb x=qCx x) (hlim:s₁.heap.NoLimit) (hg:s₁.gens=#[])
  (ha:s₁.heap.get? a=some { cls:=.type "list",data:=.seq vs.toArray }) (hi:qFe vs ns) (hl:ns.length<=qAg) (hr:dE k qLc)
  (F:∀base:Heap,K.In base->base.Ns qBe mg->gY P w K mg base CX k fa fd [x] sp) (hbind:∀(s:qAp) (u:qAi),qMj s fd ⟨[u],[]⟩ [(x,u)])
  (hsp:∀H:Hp,Iw H->aV K H a (ns.map V.int)->sp [.ref a] H (fun v _=>v = .bl true) fun _ _ _=>False)
  (hCX:∀H e s',CX [] H s₁ (fun _ _ _=>False) e s'->False) :
  qHb (qCb P w) qLc (.call (.ref fa) ⟨[.ref a],[]⟩) (fun r s'=>r = .ok (.ret (.bool true))/\OldK s₁.heap s'.heap/\s'.os=s₁.os/\qIs s'.gens) s₁:=by
 have rv:=rT hi;have lenV:=hi.length;have core:∀H:Hp,Iw H->aV K H a (ns.map V.int)->kG P w H s₁.heap->(∀b,H b≠none->b=a)->(H a≠none->K.lookup a=none) ->
   qHb (qCb P w) qLc (.call (.ref fa) ⟨[.ref a],[]⟩) (fun r s'=>r = .ok (.ret (.bool true))/\OldK s₁.heap s'.heap/\s'.os=s₁.os/\qIs s'.gens) s₁:=by
  intro H hO hS cK hA hK;have base_of:∀{b:Addr}{o:Obj},s₁.heap.get? b=some o->H b=none->(sY s₁.heap H).get? b=some o:=fun e n=>Cc e n;have noA:∀{b:Addr}{o:Obj}{es:Array DictEntry}{ep:Nat},s₁.heap.get? b=some o->o.data = .dict es ep->H b=none:=fun {b o es ep} e d=>by
   cases q:H b with
   | none=>rfl
   | some u =>
    have e':b=a:=hA b (by rw[q];simp);subst e';rw[ha] at e;cases e;have d':Data.seq vs.toArray _=Data.dict es ep:=d;cases d'
  have nsK:∀{b:Addr}{m:Str->Option qAi},s₁.heap.Ns b m->(sY s₁.heap H).Ns b m:=fun {b m} ⟨o,es,ep,e,d,r⟩=>⟨o,es,ep,base_of e (noA e d),d,r⟩;have hKb:K.In (sY s₁.heap H):=fun b o e=>base_of (KX b o e) (by
   cases q:H b with
   | none=>rfl
   | some u =>
    have e':b=a:=hA b (by rw[q];simp);subst e';rw[hK (by rw[q];simp)] at e;cases e)
  have hM:Mod K mg (sY s₁.heap H):=⟨hKb,nsK hns,⟨mb,nsK hb,hbb⟩,let ⟨mc,h1,h2⟩:=hlim;⟨mc,nsK h1,h2⟩⟩;have e0:qQ P w K mg (sY s₁.heap H) qLc [] s₁ H:=⟨rfl,hM,fun b o e=>EH e,qJj (AG _ _),trivial,fun b hb=>absurd (show b∈([]:List Addr) from hb) (by simp),cK,.of_eq hg⟩;refine qFy ((F _ hKb (nsK hns)).run qLc [] s₁ H ⟨[.ref a],[]⟩ [.ref a] [.ref a] _ _ hr e0 (hbind s₁ (.ref a)) (.cons rfl .nil) (hsp H hO hS)) fun r s' h=>?_;cases r with
  | error e=>exact(hCX H e s' h).elim
  | ok fl =>
   cases fl with
   | next=>exact False.elim h
   | brk=>exact False.elim h
   | cont=>exact False.elim h
   | ret u =>
    obtain⟨v,H',os,bare,un,hok',r',q⟩:=h;have q':v = .bl true:=q;subst q';obtain rfl:u=Value.bool true:=r';refine⟨rfl,OldK.of_keep fun b o e=>?_,os,bare⟩;cases q:H b with
    | none=>exact un.keep b o e q (by intro z;exact absurd (show b∈([]:List Addr) from z) (by simp)) (by simp)
    | some u =>
     rcases hO b with z | ⟨ob,xs,z⟩
     .rw[q] at z;cases z
     .have z2:=un.kZ b ob _ z;obtain⟨e1,_⟩:=cK b _ z;obtain⟨e2,_⟩:=hok' b _ z2;rw[e] at e1;cases e1;exact e2
 cases hk:K.lookup a with
 | some o =>
  have e:=KX a o hk;rw[ha] at e;cases e;refine core (fun _=>none) (fun _=>.inl rfl) (.inr ⟨_,vs.toArray,_,hk,rfl,rfl,rfl,by rw[qBc,lenV];exact hl,by simpa using rv⟩) (fun b u z=>by have z':(none:Option HO)=some u:=z;cases z') (fun b z=>absurd rfl z) fun z=>absurd rfl z
 | none =>
  refine core (fun b=>if b=a then some (.frz { cls:=.type "list",data:=.seq vs.toArray } (.lst (ns.map V.int))) else none) (fun b=>?_) (.inl (.inr ⟨{ cls:=.type "list",data:=.seq vs.toArray },if_pos rfl⟩)) (fun b u z=>?_) (fun b z=>?_) fun _=>hk
  .by_cases hb:b=a
   .exact .inr ⟨_,_,if_pos hb⟩
   .exact .inl (if_neg hb)
  .by_cases hb:b=a
   .have z':=(if_pos hb).symm.trans z;cases z';subst hb;exact⟨ha,by rw[qAa];exact hl,vs,_,rv,ha⟩
   .have z':=(if_neg hb).symm.trans z;cases z'
  .by_cases hb:b=a
   .exact hb
   .exact absurd (if_neg hb) z
theorem EZ{l:qLx}{n k:Nat}{q:qBl}{loose:List Str}{XP:(Str->Option qAi)->Heap->Prop}{YP:qCr->Heap->Prop}{d:DefRec}{K:Params->qAb}{CX:qCr->zS}{sp:qCr->Sp}{x:Str}
  (hn:l.most=some n) (hn2:n<=qAg) (hdf:d.params.defaults=[]) (hr:dE k qLc)
  (hY:∀(w:qCr) (h:Heap),YP w h->(K w.params).In h)
  (F:∀(w:qCr) (mg:Str->Option qAi) (fa:Addr) (h:Heap),(K w.params).In h->h.Ns qBe mg->mg d.name=some (.ref fa) ->
   ∃fd:qCi,(∀(s:qAp) (u:qAi),qMj s fd ⟨[u],[]⟩ [(x,u)]) /\
    ∀base:Heap,(K w.params).In base->base.Ns qBe mg->gY l.prog w (K w.params) mg base (CX w) k fa fd [x] (sp w))
  (hsp:∀(w:qCr) (H:Hp) (a:Addr) (ns:List Int),ns.length<=n->Iw H->aV (K w.params) H a (ns.map V.int)->sp w [.ref a] H (fun v _=>v = .bl true) fun _ _ _=>False)
  (hCX:∀(w:qCr) (H:Hp) (s:qAp) (e:qAi) (s':qAp),CX w [] H s (fun _ _ _=>False) e s'->False) :
  qMo q loose XP YP l.row.toRowW d [] (fun f vs=>PySem.call f vs):=by
 refine Att.vF hn hdf fun w s₀ s₁ mg mb fa o pm cd doc a vs ns G Y ho hd hcd hmg hobj hints hlen hg=>?_;have KX:=hY w _ Y;obtain⟨fd,hb,hF⟩:=F w mg fa _ KX G.T.g hmg;exact Cy KX G.T.g G.T.b G.T.builtins G.T.nolimit hg hobj hints (qAx hlen hn2) hr hF hb (fun H hO hS=>hsp w H a ns hlen hO hS) fun H e s'=>hCX w H s₁ e s'
def inClass(s:Stmt)(j:Nat):Stmt:=match s with
 | .ClassDef _ _ _ body _ _ _ _ _ _ _=>body.getD j (.Pass ⟨0,0,0,0⟩)
 | _=>.Pass ⟨0,0,0,0⟩
def bJ(s:Stmt):Arguments:=match s with
 | .FunctionDef _ a _ _ _ _ _ _ _ _=>a
 | _=>{ posonlyargs:=[],args:=[],vararg:=none,kwonlyargs:=[],kw_defaults:=[],kwarg:=none,defaults:=[] }
def bE(s:Stmt):List Stmt:=match s with
 | .FunctionDef _ _ b _ _ _ _ _ _ _=>b
 | _=>[]
def aH(s:Stmt):qJh:=match s with
 | .FunctionDef _ _ _ _ _ _ sc _ _ _=>sc
 | _=>{ kind:=.function,names:=[],isGenerator:=false,isCoroutine:=false }
abbrev cP:zS:=fun _ _ _ _ _ _=>False
abbrev E0:XK:=fun _ _ _=>False
theorem MV:Passes cP X E0:=fun _ _ _ _ _ _ _ h=>h.elim
structure Iy (K:qAb) (x qual:Str) (st:Stmt) (f:Addr) (fd:qCi):Prop where
 ex:∃(oc:qAi) (od:Option Addr) (kV doc pm:qAi) (an:Option Addr) (cdv ct:qAi) (osl:Array (Option qAi)),
  fd=qBh x qual (bJ st) (bE st) (aH st) .none kV doc pm an cdv ct/\K.lookup f=some ⟨oc,od,.func fd,osl⟩/\qBd K cdv qual=true
 kp:qAu K (.ref f)=true
section
variable {P:qBl}{w:qCr}{K:qAb}{mg:Str->Option qAi}{base:Heap}
theorem Iy.ok{x qual:Str}{st:Stmt}{f:Addr}{fd:qCi}{N ps:List Str}{k:Nat}{sp:Sp}(F:Iy K x qual st f fd)(S:aN N ps (aH st))(len:∀vs H Q E,sp vs H Q E->vs.length=ps.length)
  (hbody:∀(cdv:qAi) (A:qDf) (outer:List Env) (s:qAp) (H:Hp) (vs:List V) (Q:VK) (E:XK),dE k (A.deeper (qIj qual (aH st) s.heap.objs.size f cdv))->sp vs H Q E ->
   ∃t,rG (nX cP P w K mg base N qual (aH st) f cdv A outer s H E).LL (bE st) t/\t { nx:=fun _ H'=>Q .non H',rt:=Q } (start N vs) H):gY P w K mg base cP (k+1) f fd ps sp:=by
 obtain⟨oc,od,kV,doc,pm,an,cdv,ct,osl,rfl,lk,hcd⟩:=F.ex;refine GG lk hcd S len fun A outer s H vs Q E hr hsp=>?_;obtain⟨t,h,q⟩:=hbody cdv A outer s H vs Q E hr hsp;exact⟨t,h.LL,q⟩
theorem Cz{x qual:Str}{st:Stmt}{f:Addr}{oc:qAi}{od an:Option Addr}{osl:Array (Option qAi)}{kV doc pm cdv ct:qAi}(l:K.lookup f=some ⟨oc,od,.func (qBh x qual (bJ st) (bE st) (aH st) .none kV doc pm an cdv ct),osl⟩)
  (c:qBd K cdv qual=true) (k:qAu K (.ref f)=true):Iy K x qual st f (qBh x qual (bJ st) (bE st) (aH st) .none kV doc pm an cdv ct):=⟨⟨oc,od,kV,doc,pm,an,cdv,ct,osl,rfl,l,c⟩,k⟩
end
theorem gZ(hr:dE k A):A.units+1<qIe:=qBi (qMc (by decide:1<=64) _) hr.units
theorem aO(h:n<=1000):n<qAg:=qBi h #[1]
section
variable {X:Cx}
theorem pv(i:Nat){x:Str}{pos:Pos}(hN:X.N[i]?=some x:=by rfl)(hv:PM X.env.scope x:=by first|exact Or.inl rfl | exact Or.inr cC | exact Or.inr (Or.inr rfl))(hd:(x == ("__debug__":Str))=false:=by decide)
  (hcd:(x == ("__classdict__":Str))=false:=by decide):PE X (.Name x pos) (tD i):=HX hN hv hd hcd
end
theorem bK{A B:Prop}(h:B):if false=true then A else B:=by
 rw[if_neg qAn];exact h
theorem dG{A B:Prop}(h:A):if true=true then A else B:=by
 rw[if_pos rfl];exact h
theorem cU{c A B:Prop} [Decidable c] (h1:c->A)(h2:¬c->B):if c then A else B:=by
 by_cases h:c
 .rw[if_pos h];exact h1 h
 .rw[if_neg h];exact h2 h
theorem vG{c A B:Prop} [Decidable c] (hc:c)(h:B):if (!decide c)=true then A else B:=by
 rw[decide_eq_true hc];exact bK h
def aJ(H H':Hp):Prop:=∀b o,H b=some o->H' b=some o
theorem aJ.refl(H:Hp):aJ H H:=fun _ _ h=>h
theorem aJ.trans(a:aJ H H1)(b:aJ H1 H2):aJ H H2:=fun c o h=>b c o (a c o h)
theorem aJ.free(e:aJ H H'){l:Addr}(h:H' l=qNh):H l=qNh:=by
 cases q:H l with
 | none=>rfl
 | some o =>
  rw[e l o q] at h;cases h
theorem aJ.seq{K:qAb}{H H':Hp}{a:Addr}{xs:List V}(e:aJ H H')(h:aV K H a xs):aV K H' a xs:=by
 rcases h with (h | ⟨o,h⟩) | h
 .exact .inl (.inl (e _ _ h))
 .exact .inl (.inr ⟨o,e _ _ h⟩)
 .exact .inr h
def nL(cells:List (Str×Addr)):List (Str×Addr)->Prop
 | []=>True
 | p::r=>cells.lookup p.1=some p.2/\nL cells r
theorem nL.of:∀{cl:List (Str×Addr)},nL cells cl->∀x c,cl.lookup x=some c->cells.lookup x=some c
 | [],_,x,c,h=>by cases h
 | (y,d)::r,hl,x,c,h=>by
  rw[qJl] at h;cases hx:x == y with
  | true =>
   rw[hx] at h;have e:x=y:=by simpa using hx
   subst e;cases h;exact hl.1
  | false =>
   rw[hx] at h;exact nL.of hl.2 x c h
def tL(X:Cx)(NB:List Str)(sc:qJh)(cl:List (Str×Addr))(s₃:qAp)(H₃:Hp)(fp:List Addr):Cx :=
 { X with N:=NB,s₀:=s₃,H₀:=H₃,env:=compEnvC sc cl s₃.heap.objs.size X.env,outer:=X.stack,stack:=X.stack,ex:=fp,fn:=fun _=>false,pn:=[],xe:=fun _ _=>False }
structure LP (X:Cx) (NB:List Str) (pick:List (Option Nat)) (sc:qJh) (cl:List (Str×Addr)):Prop where
 yJ:qLt sc X.env=pure cl
 kind:sc.kind = .function
 yK:∀y∈sc.names,y.2≠.cell
 names:∀y∈sc.names,y.2 = .local->sc.names.lookup y.1=some .local
 sub:nL X.env.cells cl
 has:∀x,((qIp sc X.env).names.lookup x=some .cell\/(qIp sc X.env).names.lookup x=some .free)->∃c,cl.lookup x=some c
 len:pick.length=NB.length
 got:∀(j i:Nat) (x:Str),pick[j]?=some (some i)->NB[j]?=some x->X.N[i]?=some x/\(X.env.kindOf x=some .cell\/X.env.kindOf x=some .free)/\(qIp sc X.env).names.lookup x=some .cell
def hasB(cl:List (Str×Addr))(L:List (Str×qKq)):Bool:=L.all fun p=>!(p.2 == .cell||p.2 == .free)||(cl.lookup p.1).isSome
theorem zW(h:hasB cl L=true)(x:Str)(hx:L.lookup x=some .cell\/L.lookup x=some .free):∃c,cl.lookup x=some c:=by
 have get:∀k,L.lookup x=some k->(k == NameKind.cell||k == NameKind.free)=true->∃c,cl.lookup x=some c:=fun k hk hb=>by
  have z:=List.all_eq_true.mp h (x,k) (PySem.mem_of_lookup hk);dsimp only at z;rw[hb] at z;exact Option.isSome_iff_exists.mp z
 rcases hx with hx | hx
 .exact get _ hx rfl
 .exact get _ hx rfl
def vH(N:List Str)(k1 k2:List (Str×qKq)):List (Option Nat)->List Str->Bool
 | some i::p,x::r=>decide (N[i]?=some x)&&(decide (k1.lookup x=some .cell)||decide (k1.lookup x=some .free))&&decide (k2.lookup x=some .cell)&&vH N k1 k2 p r
 | none::p,_::r=>vH N k1 k2 p r
 | [],[]=>true
 | _,_=>false
theorem lG:∀{p:List (Option Nat)}{r:List Str},vH N k1 k2 p r=true->p.length=r.length
 | [],[],_=>rfl
 | [],_::_,h=>by cases h
 | none::_,[],h=>by cases h
 | some _::_,[],h=>by cases h
 | none::p,_::r,h=>congrArg Nat.succ (lG (p:=p) (r:=r) h)
 | some i::p,x::r,h=>by
  have h':(decide (N[i]?=some x)&&(decide (k1.lookup x=some .cell)||decide (k1.lookup x=some .free))&&decide (k2.lookup x=some .cell)&&vH N k1 k2 p r)=true:=h
  rw[qAv] at h';exact congrArg Nat.succ (lG h'.2)
theorem oG:∀{p:List (Option Nat)}{r:List Str},vH N k1 k2 p r=true->∀(j i:Nat) (x:Str),p[j]?=some (some i)->r[j]?=some x ->
  N[i]?=some x/\(k1.lookup x=some .cell\/k1.lookup x=some .free)/\k2.lookup x=some .cell
 | [],_,_,j,i,x,h1,_=>by simp at h1
 | none::_,[],h,_,_,_,_,_=>by cases h
 | some _::_,[],h,_,_,_,_,_=>by cases h
 | none::p,_::r,h,j,i,x,h1,h2=>by
  cases j with
  | zero=>simp at h1
  | succ j=>exact oG (p:=p) (r:=r) h j i x (by simpa using h1) (by simpa using h2)
 | some i'::p,x'::r,h,j,i,x,h1,h2=>by
  have h':(decide (N[i']?=some x')&&(decide (k1.lookup x'=some .cell)||decide (k1.lookup x'=some .free))&&decide (k2.lookup x'=some .cell)&&vH N k1 k2 p r)=true:=h
  rw[qAv,qAv,qAv,qDs] at h';obtain⟨⟨⟨a,b⟩,c⟩,d⟩:=h';cases j with
  | zero =>
   simp at h1 h2;subst h1 h2;exact⟨of_decide_eq_true a,b.elim (fun z=>.inl (of_decide_eq_true z)) fun z=>.inr (of_decide_eq_true z),of_decide_eq_true c⟩
  | succ j=>exact oG d j i x (by simpa using h1) (by simpa using h2)
theorem bT(yJ:qLt sc X.env=pure cl)(sub:nL X.env.cells cl)(kind:sc.kind = .function)(yK:∀y∈sc.names,y.2≠.cell)
  (names:∀y∈sc.names,y.2 = .local->sc.names.lookup y.1=some .local) (has:hasB cl (qIp sc X.env).names=true) (got:vH X.N X.env.scope.names (qIp sc X.env).names pick NB=true):LP X NB pick sc cl :=
 ⟨yJ,kind,yK,names,sub,zW has,lG got,fun j i x h1 h2=>oG got j i x h1 h2⟩
def pC(pick:List (Option Nat))(σ:St):St:=pick.map fun o=>o.bind fun i=>(σ[i]?).join
section
variable {X:Cx}{NB:List Str}{pick:List (Option Nat)}{sc:qJh}{cl:List (Str×Addr)}{pins:List (Addr×Obj)}{σ:St}{H:Hp}{s:qAp}{fp:List Addr}
theorem Iz(I:Inv X pins σ H s)(B:LP X NB pick sc cl)(hf:∀b∈fp,gX X pins H b)(hex:∀b∈fp,∃o,s.heap.get? b=some o):(tL X NB sc cl s H fp).Ok:=by
 have nfs:∀b∈fp,b∉oW X.stack:=fun b hb z=>by
  rcases List.mem_cons.mp (I.kO b z) with e | e
  .exact(hf b hb).2.1 e
  .exact(hf b hb).2.2.1 e
 refine⟨I.ok.mod,B.kind,I.ok.glob,I.ok.blt,qAl _,fun x y c h1 h2=>?_,fun x hx=>B.has x hx,fun x c h _=>(qAn h).elim,I.ok.hd,I.ok.frames,.inl rfl,fun b hb=>⟨?_,fun x c h e=>?_⟩,I.bs,qAx I.ok.EF I.sz,fun b o e hb=>?_,nfs,I.stack,I.oE⟩
 .exact I.ok.inj x y c (B.sub.of x c h1) (B.sub.of y c h2)
 .obtain⟨o,ho⟩:=hex b hb;exact qBk (qAy ho)
 .exact(hf b hb).2.2.2.2.1 x c (B.sub.of x c h) e
 .rcases(hf b hb).2.2.2.1 with z | z
  .exact I.ok.AH b o e z
  .exact absurd (qAr (qAy (I.ok.bs b o e).1) z) (qEg _)
theorem AU(I:Inv X pins σ H s)(B:LP X NB pick sc cl)(hf:∀b∈fp,gX X pins H b)(hex:∀b∈fp,∃o,s.heap.get? b=some o)
  (hn:h'.Ns s.heap.objs.size (fun _=>none)) (hs:∀b o,s.heap.get? b=some o->h'.get? b=some o) (t:Nat):Inv (tL X NB sc cl s H fp) [] (pC pick σ) H { s with heap:=h',toks:=t }:=by
 exists Iz I B hf hex,rfl,I.bare,Un.kept hs,⟨_,hn,fun j x v h1 h2 h3=>?_⟩,fun x c e=>?_,I.cK.fresh (qAl _),fun x c e=>I.jG x c (B.sub.of x c e),fun p hp=>absurd (show p∈([]:List (Addr×Obj)) from hp) (by simp),I.cK.kept hs
 .have h2':(pick.map fun o=>o.bind fun i=>(σ[i]?).join)[j]?=some (some v):=h2;rw[qAf] at h2';cases hp:pick[j]? with
  | none=>rw[hp] at h2';cases h2'
  | some o =>
   rw[hp] at h2';cases o with
   | none=>cases h2'
   | some i =>
    have h2'':(σ[i]?).join=some v:=Option.some.inj h2';obtain⟨g1,g2,g3⟩:=B.got j i x hp h1;have hσ:σ[i]?=some (some v):=by
     cases hq:σ[i]? with
     | none=>rw[hq] at h2'';cases h2''
     | some z=>rw[hq] at h2'';have e:z=some v:=h2'';rw[e]
    obtain⟨m,_,hl⟩:=I.loc;obtain⟨u,r,L⟩:=hl i x v g1 hσ (.inr g2);exists u,r;rcases L with ⟨k,_⟩ | ⟨_,c,hc,⟨o,ho,hd⟩⟩
    .rcases g2 with g2 | g2 <;> rw[k] at g2 <;> cases g2
    .obtain⟨c',hc'⟩:=B.has x (.inl g3);have e:c'=c:=Option.some.inj ((B.sub.of x c' hc').symm.trans hc);subst e;exact .inr ⟨.inl g3,c',hc',o,hs _ _ ho,hd⟩
 .obtain⟨v,o,ho,hd⟩:=I.cell x c (B.sub.of x c e);exact⟨v,o,hs _ _ ho,hd⟩
 .show(pC pick σ).length=NB.length;delta pC;rw[qAa];exact B.len
theorem Fb(I:Inv X pins σ H s)(hf:∀b∈fp,gX X pins H b)(J:Inv (tL X NB sc cl s H fp) [] σ' H' s'):Inv X pins σ H' s':=by
 refine I.call' (ch:=fp) J.os J.base J.cK J.bare fun b hb=>?_;obtain⟨_,f1,_,f3,f4,f5⟩:=hf b hb;exact⟨f3,f1,f4,f5⟩
end
def vI(wi:TI)(pick:List (Option Nat))(g:TG)(c:TT)(te:TE):St->Hp->(Addr->Hp->Prop)->Prop:=fun σ H Q =>
 wi σ H fun J H1=>∀D,H1 D=none->∃W:Nat->Nat->St->Hp->Prop,(∃m,W 0 m (pC pick σ) (upd H1 D (.lst [])))/\∀i m σ1 H2,W i m σ1 H2 ->
  (J.stop i H2/\Q D H2)\/(J.go i H2/\∃N:St->Hp->Prop,(∀σ' H',N σ' H'->∃m',m'<m/\W (i+1) m' σ' H') /\
   ∀x H',J.tE i H2 x H'->g x σ1 H' fun σ2 H3=>c σ2 H3 fun b H4=>if b=true then te σ2 H4 fun y H5=>∃xs,H5 D=some (.lst xs)/\xs.length<qAg/\N σ2 (upd H5 D (.lst (xs++[y]))) else N σ2 H4)
section
variable {prog:qBl}{w:qCr}{A:qDf}{R:qOr->qAp->Prop}{s:qAp}
theorem lI(W:Nat->qAp->Prop)
  (turn:∀n s,W n s->qBs (qCb prog w) A (qKn it) (fun r s₁=>match r with
   | none=>R (.ok .next) s₁
   | some v=>qBs (qCb prog w) A (qIq target it v) (fun _ s₀=>qBs (qCb prog w) A (qJu target env v) (fun _ s₂ =>
     qBs (qCb prog w) A (forIn ifs true fun c r=>if r=true then do let ok <- qOq c env (eval c env);pure (ForInStep.yield ok) else pure (ForInStep.yield r)) (fun ok s₃ =>
      if ok=true then qBs (qCb prog w) A (eval elt env) (fun x s₄ =>
       qBs (qCb prog w) A (call (.builtin "list.append") [acc,x]) (fun _ s₅=>∃m,m<n/\W m s₅) (fun _ _=>False) s₄) (fun _ _=>False) s₃
      else ∃m,m<n/\W m s₃) (fun _ _=>False) s₂) (fun _ _=>False) s₀) (fun _ _=>False) s₁) (fun _ _=>False) s)
  (n:Nat) (h:W n s) :
  qHb (qCb prog w) A (.compLoop (.ListComp elt [⟨target,iter,ifs,0⟩] scope pos) 0 it acc env) R s:=by
 refine codeAny_loop rfl W (fun n s hI=>?_) n h;show qBs _ A ((compTurn (.ListComp elt [⟨target,iter,ifs,0⟩] scope pos) 0 it acc env).onRaise (fun x=>do noteFrame x env;theTreesLotGoes x)) _ _ s;refine wpAny_noted (wpAny_noRaise ?_);rw[compTurn_list];refine qAd (qGc (qAd (cA (turn n s hI) fun r s₁ h₁=>?_)));cases r with
 | none=>exact qAm h₁
 | some v =>
  refine qAd (cA h₁ fun _ s₀ h₀=>qAd (cA h₀ fun _ s₂ h₂=>qAd (cA h₂ fun ok s₃ h₃=>?_)));cases ok with
  | false=>exact qAm ⟨rfl,h₃⟩
  | true=>exact qAd (qAd (cA h₃ fun x s₄ h₄=>qAd (cA h₄ fun _ s₅ h₅=>qAm (qAm ⟨rfl,h₅⟩))))
end
def vJ(X:Cx)(ifs:List Expr)(c:TT):Prop :=
 ∀(pins:List (Addr×Obj)) (s:qAp) (σ:St) (H:Hp) (Q:Bool->Hp->Prop),Inv X pins σ H s->c σ H Q ->
  qBs (qCb X.prog X.w) X.A (forIn ifs true fun c r=>if r=true then do let ok <- qOq c X.env (eval c X.env);pure (ForInStep.yield ok) else pure (ForInStep.yield r)) (TP X pins σ Q) X.xe s
def Qm:TT:=fun _ H Q=>Q true H
theorem bX:vJ X [] Qm:=fun pins s σ H Q I h=>qAm ⟨H,I,h⟩
theorem gL(hc:PT X e c):vJ X [e] c:=fun pins s σ H Q I h=>wpAny_tests_one (hc pins s σ H Q I h)
section
variable {X:Cx}{NB:List Str}{pick:List (Option Nat)}{sc:qJh}{cl:List (Str×Addr)}{elt target iter:Expr}{ifs:List Expr}{pos:Pos}{wi:TI}{g:TG}{c:TT}{te:TE}
theorem vK(B:LP X NB pick sc cl)(hc:X.calm=true)(hi:PI X target iter wi)
  (hg:∀s₃ H₃ fp,PG (tL X NB sc cl s₃ H₃ fp) target g) (ht:∀s₃ H₃ fp,vJ (tL X NB sc cl s₃ H₃ fp) ifs c) (he:∀s₃ H₃ fp,PE (tL X NB sc cl s₃ H₃ fp) elt te)
  (hs:∀x,qFh iter X.env x=pure x) (I:Inv X pins σ H s) (h:vI wi pick g c te σ H Q)
  (fin:∀(D C:Addr) (s':qAp) (H':Hp),Inv X pins σ H' s'->Q D H'->H' C=none->C≠X.env.locals->X.s₀.heap.objs.size<=C->(∀x a,X.env.cells.lookup x=some a->a≠C)->(∀p∈X.pn++pins,p.1≠C)->(∃m,s'.heap.Ns C m) ->
   qNo (qCb X.prog X.w) X.A X.xe use QV (.ref D) C (.ok .next) s') :
  qBs (qCb X.prog X.w) X.A (qJs (.ListComp elt [⟨target,iter,ifs,0⟩] sc pos) sc X.env (firstIterPos [⟨target,iter,ifs,0⟩] pos) (qOp []) false (eval iter X.env) use) QV X.xe s:=by
 refine wpAny_comprehension_free rfl hs B.yJ B.kind B.names (cA (hi pins s σ H _ I h) fun v s1 h1=>cA h1 fun itv s2 h2=>?_);obtain⟨it,fp,tn,J,H2,e,I2,T,st2,f2,h2⟩:=h2;subst e;refine qDr ?_;have I3:Inv X pins σ (upd H2 s2.heap.objs.size (.lst [])) { s2 with heap:=s2.heap.push { cls:=.type "list",dict:=none,data:=.seq ([]:List qAi).toArray } } :=
  I2.laid (t':=s2.toks) (fun b u e=>qAk _ e) (qAl _) ⟨qBf _,[],0,.nil,qAz _ rfl⟩
 have hf:H2 s2.heap.objs.size=none:=I2.cK.fresh (qAl _);have lt:∀b∈fp,b≠s2.heap.objs.size:=fun b hb=>by
  obtain⟨o,ho,_⟩:=T.obj _ _ st2 b hb;exact qBk (qAy ho)
 have f3:∀b∈fp,gX X pins (upd H2 s2.heap.objs.size (.lst [])) b:=fun b hb=>⟨by rw[aQ (lt b hb)];exact(f2 b hb).1,(f2 b hb).2⟩;generalize hs3:({ s2 with heap:=s2.heap.push { cls:=.type "list",dict:=none,data:=.seq ([]:List qAi).toArray } }:qAp)=s3 at I3|-;have kp3:∀b o,s2.heap.get? b=some o->s3.heap.get? b=some o:=fun b o e=>by
  rw[<- hs3];exact qAk _ e
 have hex:∀b∈fp,∃o,s3.heap.get? b=some o:=fun b hb=>by
  obtain⟨o,ho,_⟩:=T.obj _ _ st2 b hb;exact⟨o,kp3 b o ho⟩
 have st3:tn 0 s3.heap:=T.keep _ _ _ st2 fun b _ o e=>kp3 b o e;obtain⟨W,⟨m0,w0⟩,turn⟩:=h2 _ hf;refine wpAny_newFunctionEnv B.yK (by intro y hy;simp at hy) (fun h₁ hns₁ hsb₁=>?_) B.kind;have kp4:∀b o,s3.heap.get? b=some o->h₁.get? b=some o:=fun b o e=>(hsb₁.2 b (qBk (qAy e))).trans (qAk _ e);have J4:=AU I3 B f3 hex hns₁ kp4 (s3.toks+([]:List (Str×qAi)).length);have st4:tn 0 h₁:=T.keep _ _ _ st3 fun b _ o e=>kp4 b o e;have stat:∀{H':Hp},(∀b∈fp,H' b=none)->∀b∈fp,gX (tL X NB sc cl s3 (upd H2 s2.heap.objs.size (.lst [])) fp) [] H' b:=fun {H'} hn b hb=>by
  obtain⟨o,ho⟩:=hex b hb;refine⟨hn b hb,qBk (qAy ho),fun z=>?_,.inl hb,fun x a e=>(f2 b hb).2.2.2.2.1 x a (B.sub.of x a e),fun p hp=>absurd (show p∈([]:List (Addr×Obj)) from hp) (by simp)⟩;rcases List.mem_cons.mp (I2.kO b z) with e | e
  .exact(f2 b hb).2.1 e
  .exact(f2 b hb).2.2.1 e
 have loop:qHb (qCb X.prog X.w) X.A (.compLoop (.ListComp elt [⟨target,iter,ifs,0⟩] sc pos) 0 (.ref it) (.ref s2.heap.objs.size) (tL X NB sc cl s3 (upd H2 s2.heap.objs.size (.lst [])) fp).env)
   (qNo (qCb X.prog X.w) X.A X.xe use QV (.ref s2.heap.objs.size) s3.heap.objs.size) { s3 with heap:=h₁,toks:=s3.toks+([]:List (Str×qAi)).length }:=by
  refine lI (fun n s'=>∃i σ' H',Inv (tL X NB sc cl s3 (upd H2 s2.heap.objs.size (.lst [])) fp) [] σ' H' s'/\tn i s'.heap/\(∀b∈fp,H' b=none)/\W i n σ' H') ?_ m0 ⟨0,_,_,J4,st4,fun b hb=>(f3 b hb).1,w0⟩;rintro n s5 ⟨i,σ5,H5,I5,st5,fr5,w5⟩;rcases turn i n σ5 H5 w5 with ⟨stop,qn⟩ | ⟨go,N,hN,step⟩
  .refine cA (T.done (tL X NB sc cl s3 (upd H2 s2.heap.objs.size (.lst [])) fp) rfl rfl rfl hc i [] s5 σ5 H5 _ I5 (stat fr5) st5 stop) fun r s6 z9=>?_;obtain⟨hr,I6⟩:=z9;subst hr;refine fin s2.heap.objs.size s3.heap.objs.size s6 H5 (Fb I3 f3 I6) qn I6.free (qBk I3.lt).symm I3.sz (fun x a e=>?_) (fun p hp=>?_) ?_
   .obtain⟨v,o,ho,_⟩:=I3.cell x a e;exact qBk (qAy ho)
   .exact qBk (qAy (I3.pin p hp).1)
   .obtain⟨m,hn,_⟩:=I6.loc;exact⟨m,hn⟩
  .refine cA (T.item (tL X NB sc cl s3 (upd H2 s2.heap.objs.size (.lst [])) fp) rfl rfl rfl hc i [] s5 σ5 H5 _ I5 (stat fr5) st5 go) fun r s6 z9=>?_;obtain⟨u,hr,h6⟩:=z9;subst hr;refine cA h6 fun _ s7 z9=>?_;obtain⟨x,H7,I7,r7,y7,st7,fr7⟩:=z9;have I7':=I7.pinned (stat fr7) (T.obj _ _ st7);have qNg:∀{s9:qAp}{σ9:St}{H9:Hp},Inv (tL X NB sc cl s3 (upd H2 s2.heap.objs.size (.lst [])) fp) ([]++mL fp s7.heap) σ9 H9 s9->N σ9 H9 ->
     ∃m,m<n/\∃i σ' H',Inv (tL X NB sc cl s3 (upd H2 s2.heap.objs.size (.lst [])) fp) [] σ' H' s9/\tn i s9.heap/\(∀b∈fp,H' b=none)/\W i m σ' H':=fun {s9 σ9 H9} I9 n9=>by
    obtain⟨m',hm,w9⟩:=hN σ9 H9 n9;refine⟨m',hm,i+1,σ9,H9,I9.fQ,T.keep _ _ _ st7 fun b hb o e=>(I9.pin (b,o) (qAt _ (qAt _ (gD hb e)))).1,fun b hb=>?_,w9⟩;obtain⟨o,e,d⟩:=T.obj _ _ st7 b hb;exact(I9.pin (b,o) (qAt _ (qAt _ (gD hb e)))).2.1
   refine cA (hg _ _ _ _ s7 σ5 H7 x u _ I7' r7 (step x H7 y7)) fun _ s8 z9=>?_;obtain⟨σ8,H8,I8,q8⟩:=z9;refine cA (ht _ _ _ _ s8 σ8 H8 _ I8 q8) fun b s9 z9=>?_;obtain⟨H9,I9,q9⟩:=z9;cases b with
   | false =>
    rw[if_neg qAn];exact qNg I9 (by rw[if_neg qAn] at q9;exact q9)
   | true =>
    rw[if_pos rfl] at q9|-;refine cA (he _ _ _ _ s9 σ8 H9 _ I9 q9) fun y s10 z9=>?_;obtain⟨vy,H10,I10,r10,xs,hD,hl,q10⟩:=z9;refine cA (mQ _ s10 σ8 H10 (.ref s2.heap.objs.size) [vy] (.ref s2.heap.objs.size) [y] (fun _ H'=>N σ8 H') I10 rfl (.cons r10 .nil) ⟨_,xs,vy,rfl,rfl,hD,hl,q10⟩) fun _ s11 z9=>?_;obtain⟨_,H11,I11,_,q11⟩:=z9;exact qNg I11 q11
 refine codeAny_compStart_list loop (T.self _ 0 _ _ _ st4 loop)
theorem bP(B:LP X NB pick sc cl)(hc:X.calm=true)(hi:PI X target iter wi)
  (hg:∀s₃ H₃ fp,PG (tL X NB sc cl s₃ H₃ fp) target g) (ht:∀s₃ H₃ fp,vJ (tL X NB sc cl s₃ H₃ fp) ifs c) (he:∀s₃ H₃ fp,PE (tL X NB sc cl s₃ H₃ fp) elt te)
  (hs:∀x,qFh iter X.env x=pure x:=by intro _;rfl):PE X (.ListComp elt [⟨target,iter,ifs,0⟩] sc pos) (fun σ H Q=>vI wi pick g c te σ H fun D H'=>Q (.ref D) H'):=by
 intro pins s σ H Q I h;rw[eval_ListComp];refine vK (use:=none) (QV:=EP X pins σ Q) B hc hi hg ht he hs I h fun D C s' H' I' q c0 c1 c2 c3 c4 hn=>?_;obtain⟨m,hm⟩:=hn;exact⟨m,hm,fun hh hsb=>⟨.ref D,H',I'.turned (t':=s'.toks) (fun b o hb e=>(hsb.2 b hb).trans e) c0 c1 (.inr c2) c3 c4,rfl,q⟩⟩
theorem lJ(hN:X.N.Nodup)(hx1:X.N[i]?=some x)(hx2:Loc X.env.scope x)
  (hsw:qJq (.ListComp elt [⟨target,iter,ifs,0⟩] sc pos) (some (.Name x pos')) spos.line X.env=pure true) (B:LP X NB pick sc cl) (hc:X.calm=true) (hi:PI X target iter wi)
  (hg:∀s₃ H₃ fp,PG (tL X NB sc cl s₃ H₃ fp) target g) (ht:∀s₃ H₃ fp,vJ (tL X NB sc cl s₃ H₃ fp) ifs c) (he:∀s₃ H₃ fp,PE (tL X NB sc cl s₃ H₃ fp) elt te)
  (hs:∀x,qFh iter X.env x=pure x:=by intro _;rfl) (hfn:X.fn x=true\/X.env.scope.names.lookup x=some .local:=by first|exact .inl rfl | exact .inr rfl | assumption) :
  PS X (.Assign [.Name x pos'] (.ListComp elt [⟨target,iter,ifs,0⟩] sc pos) spos) (fun D σ H=>vI wi pick g c te σ H fun l H'=>D.nx (σ.set i (some (.ref l))) H'):=by
 intro pins s σ H D I h;rw[exec_Assign_Name_used _ _ _ _ hsw];refine qAd (qGc (qAd ?_));show qBs _ _ (do let _ <- qJs (.ListComp elt [⟨target,iter,ifs,0⟩] sc pos) sc X.env _ (qOp []) false (eval iter X.env) (some (qJu (.Name x pos') X.env))) _ _ s;refine qAd (cA (vK (use:=some (qJu (.Name x pos') X.env)) (QV:=fun _ s'=>SP X pins D .next s') B hc hi hg ht he hs I h fun l C s' H' I' q c0 c1 c2 c3 c4 hn=>?_) fun _ s' hq=>qAm (qAm hq));obtain⟨m,hm⟩:=hn;show qBs _ _ (qJu (.Name x pos') X.env (.ref l)) _ _ _;refine wpAny_assign_Name (mJ (v:=.ref l) I' hN hx1 hx2 rfl (fun s'' I'' z9=>?_) hfn);obtain⟨a,hsb,ha⟩:=z9;have ne:C≠a:=by
  rcases ha with e | e
  .rw[e];exact c1
  .exact(c3 x a e).symm
 refine⟨m,hm.sameBut hsb ne,fun hh hsb2=>?_⟩;exact⟨_,H',I''.turned (t':=s''.toks) (fun b o hb e=>(hsb2.2 b hb).trans e) c0 c1 (.inr c2) c3 c4,q⟩
end
structure LQ (P:qBl) (w:qCr) (outer:List Env) (H:Hp) (s:qAp) (e C:Addr) (H':Hp) (s':qAp):Prop where
 os:s'.os=s.os
 bare:qIs s'.gens
 ex:∃(a0:qAi) (B:Heap),Heap.FlyingW B outer e (.ref C) a0 s'.heap/\kG P w H' B/\(∀b o,s.heap.get? b=some o->b∉oW outer->∃o',B.get? b=some o') /\
  ∀b o,s.heap.get? b=some o->H b=none->b∉oW outer->B.get? b=some o
 slot:∀b o,s.heap.get? b=some o->H b=none->b∈oW outer->∃sl,s'.heap.get? b=some { o with slots:=sl }
 free:∀b o,s.heap.get? b=some o->H b=none->H' b=none
 jJ:∀b xs,H b=some (.tup xs)->H' b=some (.tup xs)
 kZ:∀b o u,H b=some (.frz o u)->H' b=some (.frz o u)
 mI:∀b ps,H b=some (.tbl ps)->∃more,H' b=some (.tbl (ps++more))
def jB(P:qBl)(w:qCr):zS:=fun outer H s E ev s'=>∃(e C:Addr) (H':Hp),ev = .ref e/\LQ P w outer H s e C H' s'/\E (.ref C) none H'
section
variable {X:Cx}{pins:List (Addr×Obj)}{σ:St}{H H':Hp}{s s':qAp}{e C:Addr}
end
structure Own (X:Cx):Prop where
 st:X.stack=X.env::X.outer
 fr:X.env.frame=some X.env.locals
 ex:X.ex=[]
section
variable {X:Cx}{pins:List (Addr×Obj)}{σ:St}{H H':Hp}{s s':qAp}{e C:Addr}{Q:Unit->qAp->Prop}{E:qAi->qAp->Prop}{M:Model}
theorem Own.sub(O:Own X){b:Addr}(h:b∈X.fs):b∈oW X.stack:=by
 rw[O.st];delta oW;rw[qCf,O.fr];exact qAs _ h
theorem Own.not(O:Own X)(I:Inv X pins σ H s){b:Addr}{o:Obj}(q:X.s₀.heap.get? b=some o)(h:b∉X.fs):b∉oW X.stack:=fun z=>by
 rcases List.mem_cons.mp (I.kO b z) with r | r
 .exact absurd (qAr (qAy q) I.ok.above) (by rw[r];exact qEg _)
 .exact h r
theorem Own.CA(O:Own X)(b:Addr):b∉X.ex:=by
 rw[O.ex];simp
theorem vL(O:Own X)(I:Inv X pins σ H s)(hx:qNe s.heap h' e (.ref C) vs)
  (k:∀h'',LQ X.prog X.w X.outer X.H₀ X.s₀ e C H { s with heap:=h'' }->Q () { s with heap:=h'' }):qBs M X.A (leaving X.env (.ref e)) Q E { s with heap:=h' }:=by
 have hst:=I.stack;have hfr:=I.ok.frames;rw[O.st] at hst hfr;have hin:∀env∈(X.env::X.outer),∀b,env.frame=some b->b∈oW X.stack:=fun env he b hb=>by
  rw[O.st];exact List.mem_filterMap.mpr ⟨env,he,hb⟩
 have get:∀{b:Addr}{o:Obj},s.heap.get? b=some o->b∉oW X.stack->(qJb s.heap (oW X.stack)).get? b=some o:=fun q hb=>qKs _ q hb;refine wpAny_leaves_madeW (base:=qJb s.heap (oW X.stack)) (h:=s.heap) (s:={ s with heap:=h' }) hfr O.fr (fun b o q=>qLd _ q) (PySem.W.funFrames_hide hst hin) hx fun h'' t x1 _ _ x4=>k h'' ⟨I.os,I.bare,⟨_,_,x1,fun a o q=>?_,fun b o q hb=>?_,fun b o q n hb=>?_⟩,fun b o q n hb=>?_,fun b o q n=>I.base.free b o q n (O.CA b),I.base.jJ,I.base.kZ,I.base.mI⟩
 .refine(I.cK a o q).kM (fun b u hb z=>get z fun hm=>?_) (fun _ z=>z) fun _ _ z=>z;have hn:=I.oE b hm;rcases hb with rfl | hb
  .rw[hn] at q;cases q
  .rw[hn] at hb;cases hb
 .obtain⟨o',z⟩:=I.base.there b o q (O.CA b);exact⟨o',get z (O.not I q hb)⟩
 .exact get (I.base.keep b o q n hb (O.CA b)) (O.not I q hb)
 .obtain⟨sl,z⟩:=I.base.slot b o q n hb (O.CA b);obtain⟨_,o',ho',hnf⟩:=I.ok.kN.mem hb;rw[q] at ho';cases ho';obtain⟨sl',z'⟩:=x4 b _ (hx.keeps b _ z) hnf;exact⟨sl',z'⟩
theorem AV(O:Own X)(I:Inv X pins σ H s)(F:LQ X.prog X.w X.stack H s e C H' s')
  (k:∀h'',LQ X.prog X.w X.outer X.H₀ X.s₀ e C H' { s' with heap:=h'' }->Q () { s' with heap:=h'' }):qBs M X.A (leaving X.env (.ref e)) Q E s':=by
 obtain⟨a0,B,fl,cK,th,kp⟩:=F.ex;have hfr:=I.ok.frames;rw[O.st] at fl hfr;refine wpAny_leaves_onW hfr O.fr fl fun h'' x1 x2=>k h'' ⟨F.os.trans I.os,F.bare,⟨a0,B,x1,cK,fun b o q hb=>?_,fun b o q n hb=>?_⟩,fun b o q n hb=>?_,fun b o q n=>?_,fun b xs q=>F.jJ b xs (I.base.jJ b xs q),fun b o u q=>F.kZ b o u (I.base.kZ b o u q),fun b ps q=>?_⟩
 .obtain⟨o',z⟩:=I.base.there b o q (O.CA b);exact th b o' z (O.not I q hb)
 .exact kp b o (I.base.keep b o q n hb (O.CA b)) (I.base.free b o q n (O.CA b)) (O.not I q hb)
 .obtain⟨sl,z⟩:=I.base.slot b o q n hb (O.CA b);obtain⟨sl',z'⟩:=F.slot b _ z (I.base.free b o q n (O.CA b)) (O.sub hb);obtain⟨_,o',ho',hnf⟩:=I.ok.kN.mem hb;rw[q] at ho';cases ho';obtain⟨sl2,z2⟩:=x2 b _ z' hnf;exact⟨sl2,z2⟩
 .obtain⟨o',z⟩:=I.base.there b o q (O.CA b);exact F.free b o' z (I.base.free b o q n (O.CA b))
 .obtain⟨m1,e1⟩:=I.base.mI b ps q;obtain⟨m2,e2⟩:=F.mI b _ e1;exact⟨m1++m2,by rw[e2,qLr]⟩
end
abbrev XS:=qAi->St->Hp->Prop
structure Pass (X:Cx) (Ex:XS):Prop where
 on:∀(pins:List (Addr×Obj)) (σ:St) (H:Hp) (s:qAp) (e C:Addr) (H':Hp) (s':qAp),Inv X pins σ H s->LQ X.prog X.w X.stack H s e C H' s'->Ex (.ref C) σ H'->X.xe (.ref e) s'
structure MX (X:Cx) (Ex:XS):Prop extends Pass X Ex where
 nw:∀(pins:List (Addr×Obj)) (σ:St) (H:Hp) (s:qAp) (e C:Addr) (h':Heap) (vs:List qAi),Inv X pins σ H s->qNe s.heap h' e (.ref C) vs->Ex (.ref C) σ H->X.xe (.ref e) { s with heap:=h' }
 own:PassesOwn (qCb X.prog X.w) X.A X.env X.xe
theorem bD{P:qBl}{w:qCr}{K:qAb}{mg:Str->Option qAi}{base:Heap}{N:List Str}{qual:Str}{scope:qJh}{f:Addr}{cd:qAi}{A:qDf}{outer:List Env}{s:qAp}{H:Hp}{E:XK}:
  MX (nX (jB P w) P w K mg base N qual scope f cd A outer s H E) (fun c _ H'=>E c none H') where
 on:=fun pins σ H1 s1 e C H' s' I F q=>AV ⟨rfl,rfl,rfl⟩ I F fun h'' F'=>⟨e,C,H',rfl,F',q⟩
 nw:=fun pins σ H1 s1 e C h' vs I hx q=>vL ⟨rfl,rfl,rfl⟩ I hx fun h'' F'=>⟨e,C,H1,rfl,F',q⟩
 own:=PassesOwn.leaving
section
variable {P:qBl}{w:qCr}{K:qAb}{mg:Str->Option qAi}{base:Heap}
theorem Iy.CB{x qual:Str}{st:Stmt}{f:Addr}{fd:qCi}{N ps:List Str}{k:Nat}{sp:Sp}(F:Iy K x qual st f fd)(S:aN N ps (aH st))(len:∀vs H Q E,sp vs H Q E->vs.length=ps.length)
  (hbody:∀(cdv:qAi) (A:qDf) (outer:List Env) (s:qAp) (H:Hp) (vs:List V) (Q:VK) (E:XK),dE k (A.deeper (qIj qual (aH st) s.heap.objs.size f cdv))->sp vs H Q E ->
   ∃t,rG (nX (jB P w) P w K mg base N qual (aH st) f cdv A outer s H E) (bE st) t/\t { nx:=fun _ H'=>Q .non H',rt:=Q } (start N vs) H):gY P w K mg base (jB P w) (k+1) f fd ps sp:=by
 obtain⟨oc,od,kV,doc,pm,an,cdv,ct,osl,rfl,lk,hcd⟩:=F.ex;exact GG lk hcd S len fun A outer s H vs Q E hr hsp=>hbody cdv A outer s H vs Q E hr hsp
end
def yL(sp:Sp)(dvs:List V)(Ex:XS)(t:TA):TE:=fun σ H Q=>t σ H fun vs H1=>sp (vs++dvs) H1 Q fun c _ H'=>Ex c σ H'
section
variable {X:Cx}{Ex:XS}{k:Nat}{f C:Addr}{fd:qCi}{ps:List Str}{sp:Sp}{dvs:List V}{ds:List qAi}{x m:Str}{p pos apos:Pos}{e o:Expr}{es:List Expr}{ta:TE}{t:TA}
theorem oH(R:Pass X Ex)(F:gY X.prog X.w X.K X.mg X.base (jB X.prog X.w) k f fd ps sp)(hr:dE k X.A)(hb:Binds X.K fd ps ds)(hd:Vals dvs ds)
  (I:Inv X pins σ H s) (r:Vals vs us) (h:sp (vs++dvs) H Q fun c _ H'=>Ex c σ H'):qBs (qCb X.prog X.w) X.A (call (.ref f) us) (EP X pins σ Q) X.xe s:=by
 have r2:Vals (vs++dvs) (us++ds):=r.append hd;have hl:(us++ds).length=ps.length:=by rw[<- r2.length];exact F.len _ _ _ _ h
 refine qGg (qFy (F.run X.A X.stack s H ⟨us,[]⟩ (us++ds) (vs++dvs) Q _ hr I.ER (hb s us I.qL hl) r2 h) fun r s' hq=>?_);cases r with
 | error ev =>
  obtain⟨e,C,H',rfl,Fl,q⟩:=hq;exact R.on pins σ H s e C H' s' I Fl q
 | ok fl =>
  cases fl with
  | ret u=>exact I.after hq
  | next=>exact False.elim hq
  | brk=>exact False.elim hq
  | cont=>exact False.elim hq
theorem CD(R:Pass X Ex)(F:gY X.prog X.w X.K X.mg X.base (jB X.prog X.w) k f fd ps sp)(hr:dE k X.A)(hg:Gl X x)(hm:X.mg x=some (.ref f))(hk:qAu X.K (.ref f)=true)(hb:Binds X.K fd ps ds)(hd:Vals dvs ds)
  (ha:PA X (e::es) t) (hdb:(x == ("__debug__":Str))=false:=by decide) (he:qBx (e::es) X.env=(false,eval e X.env)::qBx es X.env:=by rfl) (hpl:(qFb pos (qBx es X.env)).any (·.1)=false:=by rfl) :
  PE X (.Call (.Name x p) (e::es) [] pos) (yL sp dvs Ex t):=by
 intro pins s σ H Q I h;refine qEq (k9 I hg hm ?_ hdb);refine qFk (h₀:=X.base) I.ok.mod.Gz hk (cA (ha pos pins s σ H _ I h) fun us s1 ⟨vs,H1,I1,r,q⟩=>⟨I1.qL,?_⟩) he hpl;exact oH R F hr hb hd I1 r q
end
abbrev IA:List qAi:=[.type "ValueError",.type "Exception",.type "BaseException",.type "object"]
structure pD (K:qAb) (C:Addr):Prop where
 cls:(qKb K C).isSome=true
 ty:qHs K (.ref C)=some (.type "type")
 ga:qAe K (.ref C) "__getattribute__"=some (some (.builtin "BaseException.__getattribute__"))
 gx:qAe K (.ref C) "__getattr__"=some none
 ca:qAe K (.ref C) "__class__"=some (some (.builtin "object.__class__"))
 cg:qEc K (.builtin "object.__class__") "__get__"=some (some (.builtin "getset_descriptor.__get__"))
 ct:qFj K (.builtin "object.__class__")=some true
 mo:qCn K C (.type "object")=some true
 mb:qCn K C (.type "BaseException")=some true
theorem Fc{K:qAb}{h:Heap}{C:Addr}{bmB:List qAi}{newId:String}(X:K.In h)(q:qEr K C bmB newId=true):
  ∃bm N nm q bs hdct sn sub ab col dd k0 k1 k2 k3 k5 mN,h.get? C=some (excClassObj nm q C N bs bm hdct sn sub ab col dd k0 k1 k2 k3 k5 newId)/\h.Ns N mN/\mN "__init__"=none/\OwnTail h bmB bm:=by
 delta qEr at q;split at q
 .rename_i dd cd sl ho;split at q
  .rename_i C' bm k0 k1 k2 k3 n k5 hm hs;rw[qAv,qAv,qAv,qAv,qAv] at q;obtain⟨⟨⟨⟨⟨q1,q2⟩,q3⟩,ht⟩,cK⟩,hni⟩:=q;obtain rfl:=beq_iff_eq.mp q1;obtain rfl:=beq_iff_eq.mp q2;have hdel:cd.hasDel=false:=by
    cases z:cd.hasDel with
    | false=>rfl
    | true=>rw[z] at q3;cases q3
   have hni':=beq_iff_eq.mp hni;obtain⟨nm,bs,mro,ns,qn,hd,sn,sub,ab,col,del⟩:=cd;dsimp only at hm hdel cK hni';subst hm hdel;obtain⟨l⟩:=sl;dsimp only at hs;subst hs;exact⟨bm,ns,nm,qn,bs,hd,sn,sub,ab,col,dd,k0,k1,k2,k3,k5,_,X _ _ ho,.of_isNs (PySem.W.isNs_of_in X cK),PySem.W.nsMap_none_of_in X cK hni',PySem.W.tail_of_in X ht⟩
  .cases q
 .cases q
def IB(C:Addr)(Ex:XS)(t:TA):TS:=fun _ σ H=>t σ H fun vs H1=>vs.length<=qAg/\Ex (.ref C) σ H1
section
variable {X:Cx}{Ex:XS}{x:Str}{C:Addr}{e₀:Expr}{rest:List Expr}{np cpos pos:Pos}{t:TA}
theorem eM(R:MX X Ex)(hc:X.calm=true)(hg:Gl X x)(hm:X.mg x=some (.ref C))(q:qEr X.K C IA "ValueError.__new__"=true)(ha:PA X (e₀::rest) t)
  (he:qBx (e₀::rest) X.env=(false,eval e₀ X.env)::qBx rest X.env:=by rfl) (hplain:(qFb cpos (qBx rest X.env)).any (·.1)=false:=by rfl) (hd:(x == ("__debug__":Str))=false:=by decide) :
  PS X (.Raise (some (.Call (.Name x np) (e₀::rest) [] cpos)) none pos) (IB C Ex t):=by
 intro pins s σ H D I h;obtain⟨tl,N,nm,qn,bs,hdct,sn,sub,ab,col,dd,k0,k1,k2,k3,k5,mN,hC,hN,hni,T⟩:=Fc I.mod.Gz q;have FB:=PySem.F.excBase_ValueError;refine wpAny_Raise_call_subT (C:=C) (nm:=nm) (q:=qn) (N:=N) (bs:=bs) (bm:=tl) (hdct:=hdct) (sn:=sn) (sub:=sub) (ab:=ab) (col:=col) (dd:=dd) (k0:=k0) (k1:=k1) (k2:=k2) (k3:=k3) (k5:=k5)
  FB (mN:=mN) (T.hasType FB.hasBase) (I.ok.hd hc) (by rw[he];show(false||(qFb cpos (qBx rest X.env)).any (·.1))=false;rw[hplain];rfl) hni (k9 I hg hm ⟨rfl,?_⟩ hd)
 have hs:=ha cpos pins s σ H _ I h;rw[he] at hs|-;refine qLi (cA hs fun us s2 z9=>?_);obtain⟨vs,H2,I2,r,z,q2⟩:=z9;have kb:∀b o,X.base.get? b=some o->s2.heap.get? b=some o:=I2.bk;exact⟨rfl,by show us.length<=qAg;rw[<- r.length];exact z,kb _ _ hC,hN.keeps kb,T.keeps kb,fun h' e hx=>R.nw pins σ H2 s2 e C h' us I2 hx q2⟩
end
def Qn(e C:Addr):HO:=.ext fun h=>∃oe,h.get? e=some oe/\oe.cls = .ref C
section
variable {X:Cx}{pins:List (Addr×Obj)}{σ:St}{H H':Hp}{s s':qAp}{e C:Addr}
theorem Inv.GH(I:Inv X pins σ H s)(hn:H e=none)(h0:X.s₀.heap.get? e=none)(hL:e≠X.env.locals)(hc:∀x c,X.env.cells.lookup x=some c->c≠e)(hp:∀p∈X.pn++pins,p.1≠e)(hfs:e∉X.fs)
  (new:dO X.prog X.w (upd H e o) s.heap e o):Inv X pins σ (upd H e o) s:=by
 have ne:∀b u,H b=some u->b≠e:=fun b u q=>bG q hn;refine⟨I.ok,I.os,I.bare,⟨I.base.keep,I.base.slot,fun b ob q n hx=>?_,I.base.there,fun b xs q=>?_,fun b ob u q=>?_,fun b ps q=>?_⟩,I.loc,I.cell,?_,fun x c q=>?_,fun p q=>?_,fun b u q=>?_,I.len⟩
 .rw[aQ (fun z=>by rw[z,h0] at q;cases q)];exact I.base.free b ob q n hx
 .have z:=I.base.jJ b xs q;rw[aQ (ne _ _ z)];exact z
 .have z:=I.base.kZ b ob u q;rw[aQ (ne _ _ z)];exact z
 .obtain⟨m,z⟩:=I.base.mI b ps q;exact⟨m,by rw[aQ (ne _ _ z)];exact z⟩
 .rw[aQ hL.symm];exact I.free
 .rw[aQ (hc x c q)];exact I.jG x c q
 .obtain⟨z1,z2,z3⟩:=I.pin p q;exact⟨z1,by rw[aQ (hp p q)];exact z2,z3⟩
 .by_cases hb:b=e
  .subst hb;rw[aC] at q;cases q;exact new
  .rw[aQ hb] at q;exact(I.cK b u q).kM (fun c v _ z=>z) (fun c z=>by rw[aQ (ne _ _ z)];exact z) fun c xs z=>by rw[aQ (ne _ _ z)];exact z
end
def Fd(X:Cx)(pins:List (Addr×Obj))(Ex:XS):Cx :=
 { X with pn:=X.pn++pins,xe:=fun ev s'=>∃e C σ H s H',ev=Value.ref e/\Inv X pins σ H s/\LQ X.prog X.w X.stack H s e C H' s'/\Ex (.ref C) σ H' }
section
variable {X:Cx}{pins:List (Addr×Obj)}{σ:St}{H H':Hp}{s s':qAp}{e C:Addr}{Ex:XS}
theorem Inv.MY(I:Inv X pins σ H s)(Ex:XS):Inv (Fd X pins Ex) [] σ H s:=by
 obtain⟨⟨o1,o2,o3,o4,o5,o6,o7,o8,o9,o10,o11,o12,o13,o14,o15,o16,o17,o18⟩,i2,i3,i4,i5,i6,i7,i8,i9,i10,i11⟩:=I;exact⟨⟨o1,o2,o3,o4,o5,o6,o7,o8,o9,o10,o11,o12,o13,o14,o15,o16,o17,o18⟩,i2,i3,i4,i5,i6,i7,i8,fun p hp=>i9 p (by simpa [Fd] using hp),i10,i11⟩
theorem Inv.tM(I:Inv (Fd X pins Ex) pins2 σ H s):Inv X pins σ H s:=by
 obtain⟨⟨o1,o2,o3,o4,o5,o6,o7,o8,o9,o10,o11,o12,o13,o14,o15,o16,o17,o18⟩,i2,i3,i4,i5,i6,i7,i8,i9,i10,i11⟩:=I;exact⟨⟨o1,o2,o3,o4,o5,o6,o7,o8,o9,o10,o11,o12,o13,o14,o15,o16,o17,o18⟩,i2,i3,i4,i5,i6,i7,i8,fun p hp=>i9 p (qEb _ hp),i10,i11⟩
end
section
open Builtin Builtin.ObjectAttr Builtin.Getset_descriptor
theorem CF{K:qAb}{M:Model}{h:Heap}{e C:Addr}{name:Str}{a g:qAi}(X:K.In h)(h1:qAe K (.ref C) name=some (some a))(h2:qEc K a "__get__"=some (some g))(h3:qFj K a=some true):
  qFl M h (find (.ref e) (.ref C) name) (.bind g a):=by
 have L1:=qGe (M:=M) X h1;have L2:qFl M h (getOf (some a)) (some g):=PySem.W.looks_specialIn X h2;have L3:=PySem.W.looks_takesIn (M:=M) X h3;exact L1.andThen (L2.andThen ((show qFl M h (dataDescriptor? (some a) (some g)) (some (g,a)) from L3.andThen .now).andThen (PySem.W.Looks.tag .now)))
theorem qS{prog:qBl}{w:qCr}{A:qDf}{s:qAp}{K:qAb}{x C:Addr}{R:qOr->qAp->Prop}{tp:qAi}(X:K.In s.heap)(I:∀M,qFl M s.heap (typeOf (.ref x)) (.ref C))
  (hm:qCn K C (.type "object")=some true) (h:R (.ok (.ret (.ref C))) s):qHb (qCb prog w) A (.call (.builtin "getset_descriptor.__get__") ⟨[.builtin "object.__class__",.ref x,tp],[]⟩) R s:=by
 obtain⟨hh,g,dr,t,os⟩:=s;have L0:=I (qCb prog w);have L1:=qKr (M:=qCb prog w) X hm;refine qGq PySem.W.KF.slot_gs.plain PySem.W.KF.entry_gs (PySem.W.KF.slot_gs.check _ _ _ _ _ _ _ _ PySem.W.KF.type_class (PySem.W.KF.args_gs _ _ _) ?_);delta Builtin.«getset_descriptor.__get__» descrGet;rw[PySem.W.dga_obj];refine qAd (qAm ?_);delta descrGetter descrCheckInstance descrNameAndClass isInstance;simp only[PySem.W.KF.owner_class];repeat lk
 refine⟨Code.quiet_builtin _ #[2],qHa PySem.W.KF.entry_class ?_⟩;delta Builtin.«object.__class__» shownTypeOf;repeat lk
 exact h
end
theorem tN{M:Model}{A:qDf}{E:qAi->qAp->Prop}{s:qAp}{K:qAb}{x C:Addr}{nameV:qAi}{Q:Unit->qAp->Prop}(X:K.In s.heap)(I:qFl M s.heap (typeOf (.ref x)) (.ref C))
  (hm:qCn K C (.type "BaseException")=some true) (hq:Q () s):qBs M A (checkBuiltinCall "BaseException.__getattribute__" ⟨[.ref x,nameV],[]⟩) Q E s:=by
 have hk:builtinKind "BaseException.__getattribute__"=some .slot:=by decide +kernel
 have hsplit:splitId "BaseException.__getattribute__"=some ("BaseException","__getattribute__"):=by decide +kernel
 have L1:=qKr (M:=M) X hm;have L2:qFl M s.heap (isInstance (.ref x) (.type "BaseException")) true:=I.andThen L1;have ha:=F.args_bexc_ga (.ref x) nameV;obtain⟨hh,g,dr,t,os⟩:=s;simp only[checkBuiltinCall,hk,hsplit];refine qAd (L2.at ?_);repeat (first | assumption | wp_step)
section
open Builtin Builtin.ObjectAttr Builtin.Getset_descriptor
theorem IC{prog:qBl}{w:qCr}{A:qDf}{E:qAi->qAp->Prop}{s:qAp}{K:qAb}{x C:Addr}{Q:Option qAi->qAp->Prop}(X:K.In s.heap)(c:pD K C)(I:∀M,qFl M s.heap (typeOf (.ref x)) (.ref C))
  (h:Q (some (.ref C)) { s with toks:=s.toks+1 }):qBs (qCb prog w) A (getAttr? (.ref x) "__class__") Q E s:=by
 obtain⟨hh,g,d,t,os⟩:=s;have L0:=I (qCb prog w);have L1:=qGe (M:=qCb prog w) X c.ga;have L2:=qGe (M:=qCb prog w) X c.gx;have L3:=CF (M:=qCb prog w) (e:=x) X c.ca c.cg c.ct;have hx2:(Value.builtin "BaseException.__getattribute__" == Value.builtin "object.__getattribute__")=false:=by decide +kernel
 have f3:=F.excAttr_ValueError.ga.bind (.ref x);delta getAttr? getAttrBy? getAttrBy;refine qAd (wpAny_mkText (qAd (qJp (qCm (qAd (L0.at (qAd (L1.at ?_))))))));dsimp only;rw[if_neg (by rw[hx2,qFf];exact qAn)];delta getAttrByItsOwn hookBefore;rw[if_pos (show onTheHeap (Value.ref C)=true from rfl)];refine qAd (L2.at ?_);refine qAd (qJp (qCm ?_));delta callGetattribute;rw[if_neg (by decide)];delta boundAndCalled;refine qAd (qFd f3 ?_);refine qGg (qGq F.excAttr_ValueError.ga.plain F.entry_bexc_ga (tN X L0 c.mb ?_));show qBs _ _ (Builtin.«object.__getattribute__» ⟨[.ref x,.str "__class__" t],[]⟩) _ _ _;delta Builtin.«object.__getattribute__»;refine qAd (qFd (a:=(Value.ref x,[Value.str "__class__" t])) rfl ?_);refine qAd (qFd (a:=("__class__":Str)) rfl ?_);refine qAd (L0.at (qAd (L3.at ?_)));show qBs _ _ (qGz [Value.builtin "object.__class__"] (call (.builtin "getset_descriptor.__get__") [.builtin "object.__class__",.ref x,.ref C]) >>= ret) _ _ _;refine qAd (qCm (qGg (qS (s:=⟨hh,g,d,t+1,os⟩) X I c.mo ?_)));show qBs _ _ (ret (Value.ref C)) _ _ _;refine qAm ?_;show qBs _ _ (handedOut (Value.ref C)) _ _ _;exact PySem.W.handed_on rfl (qAm h)
end
inductive MZ (K:qAb) (H:Hp):V->qAi->Prop where
 | of {v:V}{t:qAi} (h:kC K H v t):MZ K H v t
 | exc {e C:Addr} (h:H e=some (Qn e C)) (c:pD K C):MZ K H (.ref e) (.ref C)
theorem CG{K:qAb}{e C:Addr}(c:pD K C):qMs K (.ref e) (.ref C) (fun h=>∃oe,h.get? e=some oe/\oe.cls = .ref C) where
 ty:=(by rintro M h _ ⟨oe,h1,h2⟩;exact h2▸(PySem.W.Looks.ld h1).andThen .now)
 it:=fun _ _ X _=>by
  have z:=c.cls;unfold qKb at z;split at z
  .rename_i c' d' cd' sl' ho;intro A' Q' E' s' k q;unfold isType loadHead;exact qAd (wpAny_loadPart (k _ _ (X _ _ ho)) (qAm q))
  .cases z
 ne:=fun h tp dd its n sl X htp=>by
  refine Bool.eq_false_iff.mpr fun q=>?_;have e:C=tp:=Value.ref.inj (beq_iff_eq.mp q);subst e;have z:=c.cls;unfold qKb at z;split at z
  .rename_i c' d' cd' sl' ho;have z:=(X _ _ ho).symm.trans htp;cases z
  .cases z
 ca:=fun X ⟨oe,h1,h2⟩ k=>IC X c (fun M=>h2▸(PySem.W.Looks.ld h1).andThen .now) k
section
variable {X:Cx}{pins:List (Addr×Obj)}{σ:St}{H:Hp}{s:qAp}
theorem MZ.Sf{x:V}{u t:qAi}(I:Inv X pins σ H s)(rx:RelV x u)(ty:MZ X.K H x t):∃φ:Heap->Prop,qMs X.K u t φ/\φ s.heap/\u≠.builtin "__main__.__loader__#opaque":=by
 cases ty with
 | exc h c =>
  rename_i e C;cases (show u=Value.ref e from rx);obtain⟨z,_⟩:=I.cK e _ h;exact⟨_,CG c,z,fun z=>nomatch z⟩
 | of ty =>
  cases ty with
  | non=>cases (show u=Value.none from rx);exact⟨_,PySem.W.kitx_none,True.intro,fun z=>nomatch z⟩
  | bl y=>cases (show u=Value.bool y from rx);exact⟨_,PySem.W.kitx_bool,True.intro,fun z=>nomatch z⟩
  | int i=>obtain⟨t,q⟩:=(show ∃t,u=Value.int i t from rx);cases q;exact⟨_,PySem.W.kitx_int,True.intro,fun z=>nomatch z⟩
  | str y=>obtain⟨t,q⟩:=(show ∃t,u=Value.str y t from rx);cases q;exact⟨_,PySem.W.kitx_str,True.intro,fun z=>nomatch z⟩
  | flt y=>obtain⟨t,q⟩:=(show ∃t,u=Value.float y t from rx);cases q;exact⟨_,PySem.W.kitx_float,True.intro,fun z=>nomatch z⟩
  | @lst a xs ea =>
   cases (show u=Value.ref a from rx)
   obtain⟨_,_,n,_,h1⟩:=(show dO X.prog X.w H s.heap a (.lst xs) from I.cK a _ ea);exact⟨_,qLj,⟨_,h1,rfl⟩,fun z=>nomatch z⟩
  | @frz a ob xs ea =>
   cases (show u=Value.ref a from rx)
   obtain⟨_,_,_,n,_,h1⟩:=(show dO X.prog X.w H s.heap a (.frz ob (.lst xs)) from I.cK a _ ea);exact⟨_,qLj,⟨_,h1,rfl⟩,fun z=>nomatch z⟩
  | @tup a xs ea =>
   cases (show u=Value.ref a from rx)
   obtain⟨_,_,_,p⟩:=(show dO X.prog X.w H s.heap a (.tup xs) from I.cK a _ ea);obtain⟨o,h1,h2,_⟩:=p;exact⟨_,PySem.W.kitx_tuple,⟨o,h1,h2⟩,fun z=>nomatch z⟩
  | @dK a kvs ea =>
   cases (show u=Value.ref a from rx)
   obtain⟨_,_,vs,_,p⟩:=(show dO X.prog X.w H s.heap a (.dK kvs) from I.cK a _ ea);obtain⟨o,es,ep,h1,h2,_⟩:=p;exact⟨_,qLk,⟨o,h1,h2.1⟩,fun z=>nomatch z⟩
  | @dT a kvs ea =>
   cases (show u=Value.ref a from rx)
   obtain⟨_,_,xs,_,o,es,ep,h1,h2,_⟩:=(show dO X.prog X.w H s.heap a (.dT kvs) from I.cK a _ ea);exact⟨_,qLk,⟨o,h1,h2.1⟩,fun z=>nomatch z⟩
  | @ins a C dx fs ea cl ha hn htk hm =>
   cases (show u=Value.ref a from rx)
   obtain⟨mA,O,_⟩:=oF I.cK ea;obtain⟨od,J,_⟩:=O.look;exact⟨_,PySem.W.kitx_own (cl.get _) cl.hd ha hn htk hm,J,fun z=>nomatch z⟩
def Na:V->Option qAi
 | .ty n=>some (.type n)
 | .ref a=>some (.ref a)
 | _=>none
theorem CH(h:Na c=some cv)(r:RelV c u):u=cv:=by
 cases c <;> first | (cases h;exact r) | cases h
theorem fT:eZ X (.builtin "isinstance") (fun xs H Q=>∃v c t cv b,xs=[v,c]/\Na c=some cv/\MZ X.K H v t/\qDc X.K t cv=some b/\Q (.bl b) H):=by
 intro pins s σ H xs us Q I r h;obtain⟨v,c,t,cv,b,rfl,hc,ty,hk,q⟩:=h;obtain⟨u,cu,rfl,ru,rc⟩:=vals2 r;obtain rfl:=CH hc rc;obtain⟨φ,Z,p,ne⟩:=ty.Sf I ru;exact PySem.W.kia_one Z I.qL p hk ne fun tk=>⟨.bl b,H,I.tok tk,rfl,q⟩
end
section
variable {X:Cx}
theorem vM(K:qAb)(h:X.K=K:=by rfl):Ip X (MP K):=h▸bF
theorem gQ(K:qAb)(h:X.K=K:=by rfl):Ip X (MQ K):=h▸bL
end
section
variable {X:Cx}
def Nb(K:qAb):R2:=fun x y H Q=>∃l b xs zs,x = .ref l/\y = .ref b/\aV K H l xs/\aV K H b zs/\xs.length+zs.length<=qAg/\∀p,H p=none->Q (.ref p) (upd H p (.lst (xs++zs)))
theorem cX:hU X (qEu .Add) (Nb X.K):=by
 intro pins s σ H x y v u Q I rx ry h;obtain⟨l,b,xs,zs,rfl,rfl,hH,hB,hz,q⟩:=h;cases rx;cases ry;obtain⟨its,r,pl,hl⟩:=I.list hH;obtain⟨its2,r2,pl2,hl2⟩:=I.list hB;obtain⟨⟨cls,dd,data,sl⟩,n,ho,hc,_,hd⟩:=pl;obtain⟨⟨cls2,dd2,data2,sl2⟩,n2,ho2,hc2,_,hd2⟩:=pl2;dsimp only at hc hd hc2 hd2;subst hc hd hc2 hd2;have ea:its.toArray++its2.toArray=(its++its2).toArray:=by simp
 refine concat_meets ⟨_,ho,rfl⟩ ⟨_,ho2,rfl⟩ noFill_list_add seq_list_add PySem.F.slot_list_add PySem.F.entry_list_add (PySem.F.args_list_add_2 _ _) (list_addW l b its.toArray its2.toArray n n2 dd dd2 sl sl2 (by rw[qBc,qBc,<- r.length,<- r2.length];exact hz)) ⟨ho,ho2,?_⟩;rw[ea];exact⟨.ref _,_,I.MT (t':=s.toks) (r.append r2) (by rw[qAo];exact hz),rfl,q _ I.fresh⟩
def Nc(K:qAb)(f:Bool->Bool):R2:=fun x y H Q=>∃(l b:Addr) (ns ms:List Int),x = .ref l/\y = .ref b/\aV K H l (ns.map V.int)/\aV K H b (ms.map V.int)/\Q (.bl (f (decide (ns=ms)))) H
theorem CI(hu:X.A.units+64<qIe):hU X (qDd .Eq) (Nc X.K id):=by
 intro pins s σ H x y v u Q I rx ry h;obtain⟨l,b,ns,ms,rfl,rfl,hH,hB,q⟩:=h;cases rx;cases ry;obtain⟨its,r,pl,hl⟩:=I.list hH;obtain⟨its2,r2,pl2,hl2⟩:=I.list hB;exact PySem.W.eq_intsK pl.isList (intsAre_of r) pl2.isList (intsAre_of r2) hu ⟨.bl (decide (ns=ms)),H,I,rfl,q⟩
theorem yM(hu:X.A.units+64<qIe):hU X (qDd .NotEq) (Nc X.K (!·)):=by
 intro pins s σ H x y v u Q I rx ry h;obtain⟨l,b,ns,ms,rfl,rfl,hH,hB,q⟩:=h;cases rx;cases ry;obtain⟨its,r,pl,hl⟩:=I.list hH;obtain⟨its2,r2,pl2,hl2⟩:=I.list hB;exact PySem.W.ne_intsK pl.isList (intsAre_of r) pl2.isList (intsAre_of r2) hu ⟨.bl (!decide (ns=ms)),H,I,rfl,q⟩
def CJ(i j:Int):Prop:=EM i j\/(i.natAbs<2^2000000/\j.natAbs<2^2000000)
theorem CJ.ok(h:CJ i j):IntMulOk i j:=by
 rcases h with h | ⟨h1,h2⟩
 .exact h.ok
 .exact IntMulOk.of_le (m:=2000000) (n:=2000000) (intBits_le_iff.mpr h1) (intBits_le_iff.mpr h2) #[1]
theorem lK:hU X (qEu .Mult) (rI CJ fun i j=>.int (i*j)):=GD fun i j t u s Q E hc h=>mul_int h hc.ok
def zX(_ j:Int):Prop:=j≠0/\j.natAbs<2^8000
theorem zX.ok(h:zX i j):Builtin.divisionGoesByPylong i j=false:=by
 obtain⟨h0,h1⟩:=h;have hl:j.natAbs.log2<8000:=(qOo (by lia)).mpr h1;have hd:¬((if (j == 0)=true then 0 else j.natAbs.log2/30+1)>300):=by
  split
  .lia
  .lia
 show(decide ((if (j == 0)=true then 0 else j.natAbs.log2/30+1)>300)&&_)=false;rw[decide_eq_false hd,qEv]
theorem CK:hU X (qEu .FloorDiv) (rI zX fun i j=>.int (i.fdiv j)):=GD fun i j t u s Q E hc h=>floordiv_int hc.1 h (.inl hc.ok)
theorem Inv.big(I:Inv X pins σ H s):qFg<s.heap.objs.size:=by
 have h:qBe<s.heap.objs.size:=(I.mod.glob.keeps I.bk).lt;exact qFn #[1] h
end
structure Tx (K:qAb) (mg:Str->Option qAi) (x:Str) (st:Stmt) (ps:List Str) (f:Addr) (fd:qCi):Prop where
 fn:Iy K x x st f fd
 at_:mg x=some (.ref f)
 bd:∀us:List qAi,us.length=ps.length->qMi fd ⟨us,[]⟩=pure (ps.zip us)
theorem bZ{K:qAb}{mg:Str->Option qAi}{h:Heap}{x:Str}{st:Stmt}{ps:List Str}{f:Addr}{oc:qAi}{od an:Option Addr}{osl:Array (Option qAi)}{kV doc pm cdv ct:qAi}(X:K.In h)(G:h.Ns qBe mg)
  (a:qBp K qBe x=some (some (.ref f))) (l:K.lookup f=some ⟨oc,od,.func (qBh x x (bJ st) (bE st) (aH st) .none kV doc pm an cdv ct),osl⟩)
  (c:qBd K cdv x=true) (k:qAu K (.ref f)=true)
  (hb:∀(kV doc pm:qAi) (an:Option Addr) (cdv ct:qAi) (us:List qAi),us.length=ps.length->qMi (qBh x x (bJ st) (bE st) (aH st) .none kV doc pm an cdv ct) ⟨us,[]⟩=pure (ps.zip us)) :
  ∃f fd,Tx K mg x st ps f fd:=⟨f,_,Cz l c k,qCo X G a,hb kV doc pm an cdv ct⟩
structure Df (P:qBl) (w:qCr) (K:qAb) (mg:Str->Option qAi) (base:Heap) (CX:zS) (k:Nat) (x:Str) (ps:List Str) (sp:Sp) (f:Addr) (fd:qCi):Prop where
 at_:mg x=some (.ref f)
 kp:qAu K (.ref f)=true
 ok:gY P w K mg base CX k f fd ps sp
 bd:Binds K fd ps []
section
variable {P:qBl}{w:qCr}{K:qAb}{mg:Str->Option qAi}{base:Heap}{x:Str}{st:Stmt}{ps N:List Str}{f:Addr}{fd:qCi}{k:Nat}{sp:Sp}
theorem Tx.jI(t:Tx K mg x st ps f fd)(S:aN N ps (aH st))(len:∀vs H Q E,sp vs H Q E->vs.length=ps.length)
  (hbody:∀(cdv:qAi) (A:qDf) (outer:List Env) (s:qAp) (H:Hp) (vs:List V) (Q:VK) (E:XK),dE k (A.deeper (qIj x (aH st) s.heap.objs.size f cdv))->sp vs H Q E ->
   ∃t,rG (nX cP P w K mg base N x (aH st) f cdv A outer s H E).LL (bE st) t/\t { nx:=fun _ H'=>Q .non H',rt:=Q } (start N vs) H):Df P w K mg base cP (k+1) x ps sp f fd :=
 ⟨t.at_,t.fn.kp,t.fn.ok S len hbody,.all t.bd⟩
theorem Tx.GI(t:Tx K mg x st ps f fd)(S:aN N ps (aH st))(len:∀vs H Q E,sp vs H Q E->vs.length=ps.length)
  (hbody:∀(cdv:qAi) (A:qDf) (outer:List Env) (s:qAp) (H:Hp) (vs:List V) (Q:VK) (E:XK),dE k (A.deeper (qIj x (aH st) s.heap.objs.size f cdv))->sp vs H Q E ->
   ∃t,rG (nX (jB P w) P w K mg base N x (aH st) f cdv A outer s H E) (bE st) t/\t { nx:=fun _ H'=>Q .non H',rt:=Q } (start N vs) H):Df P w K mg base (jB P w) (k+1) x ps sp f fd :=
 ⟨t.at_,t.fn.kp,t.fn.CB S len hbody,.all t.bd⟩
end
section
variable {X:Cx}{Ex:XS}{k j:Nat}{f:Addr}{fd:qCi}{ps:List Str}{sp:Sp}{x:Str}{p pos:Pos}{e:Expr}{es:List Expr}{t:TA}
theorem bH(D:Df X.prog X.w X.K X.mg X.base cP k x ps sp f fd)(hr:dE j X.A)(hj:k<=j)(hg:Gl X x)(ha:PA X (e::es) t)(hdb:(x == ("__debug__":Str))=false:=by decide)(he:qBx (e::es) X.env=(false,eval e X.env)::qBx es X.env:=by rfl)(hpl:(qFb pos (qBx es X.env)).any (·.1)=false:=by rfl):
  PE X (.Call (.Name x p) (e::es) [] pos) (Cq sp [] E0 t):=ES D.ok (hr.mono hj) hg D.at_ D.kp D.bd .nil MV ha hdb he hpl
theorem fA(R:Pass X Ex)(D:Df X.prog X.w X.K X.mg X.base (jB X.prog X.w) k x ps sp f fd)(hr:dE j X.A)(hj:k<=j)(hg:Gl X x)(ha:PA X (e::es) t)(hdb:(x == ("__debug__":Str))=false:=by decide)(he:qBx (e::es) X.env=(false,eval e X.env)::qBx es X.env:=by rfl)(hpl:(qFb pos (qBx es X.env)).any (·.1)=false:=by rfl):
  PE X (.Call (.Name x p) (e::es) [] pos) (yL sp [] Ex t):=CD R D.ok (hr.mono hj) hg D.at_ D.kp D.bd .nil ha hdb he hpl
end
theorem bY:Pass X (fun _ _ _=>False):=⟨fun _ _ _ _ _ _ _ _ _ _ q=>q.elim⟩
theorem CL{n:Nat}{σ0:St}{H1:Hp}{i0:Nat}{c:TT}{te:TE}{Q:Addr->Hp->Prop}(f:Nat->Option V)(hn:n<=qAg)
  (step:∀(i:Nat) (H2:Hp) (k:VK) (k0:Hp->Prop),i<n->(∀y,f i=some y->k y H2)->(f i=none->k0 H2) ->
   c (σ0.set i0 (some (.int (0+(i:Int))))) H2 fun b H4=>if b=true then te (σ0.set i0 (some (.int (0+(i:Int))))) H4 k else k0 H4)
  (h:∀D,H1 D=none->Q D (upd H1 D (.lst ((qAh n).filterMap f)))) :
  ∀D,H1 D=none->∃W:Nat->Nat->St->Hp->Prop,(∃m,W 0 m σ0 (upd H1 D (.lst [])))/\∀i m σ1 H2,W i m σ1 H2 ->
   ((xR 0 n).stop i H2/\Q D H2)\/((xR 0 n).go i H2/\∃N:St->Hp->Prop,(∀σ' H',N σ' H'->∃m',m'<m/\W (i+1) m' σ' H') /\
    ∀x H',(xR 0 n).tE i H2 x H'->bC i0 x σ1 H' fun σ2 H3=>c σ2 H3 fun b H4=>if b=true then te σ2 H4 fun y H5=>∃xs,H5 D=some (.lst xs)/\xs.length<qAg/\N σ2 (upd H5 D (.lst (xs++[y]))) else N σ2 H4):=by
 intro D hD;exists fun i m σ1 H2=>σ1.set i0 none=σ0.set i0 none/\H2=upd H1 D (.lst ((qAh i).filterMap f))/\i<=n/\m=n-i,⟨n,rfl,rfl,qBf _,rfl⟩;rintro i m σ1 H2 ⟨hσ,rfl,hi,rfl⟩;have hset:∀v:Option V,σ1.set i0 v=σ0.set i0 v:=fun v=>by
  have z:=congrArg (fun l=>qIc l i0 v) hσ;simpa using z
 rcases qBj i n with hlt | hge
 .right
  refine⟨hlt,fun σ' H'=>σ'.set i0 none=σ0.set i0 none/\H'=upd H1 D (.lst ((qAh (i+1)).filterMap f)),(by rintro σ' H' ⟨a,b⟩;exact ⟨n-(i+1),by lia,a,b,hlt,rfl⟩),?_⟩;rintro x H' ⟨rfl,rfl⟩;show c (σ1.set i0 (some (.int (0+(i:Int))))) _ _;rw[hset];refine step i _ _ _ hlt (fun y hy=>⟨_,aC,?_,?_,?_⟩) fun hno=>⟨?_,?_⟩
  .refine qBi (qCy _ _) ?_;rw[qBg];lia
  .simp
  .rw[EG,qCt,qBy];simp[hy]
  .simp
  .rw[qCt,qBy];simp[hno]
 .left
  obtain rfl:i=n:=qDe hi hge;exact⟨qAl _,h D hD⟩
theorem CM(h0:0<=i)(h1:i<xs.length):∃v,fM xs i=some v/\v∈xs:=by
 have hn:i.toNat<xs.length:=by lia
 refine⟨xs[i.toNat],?_,qDm hn⟩;have z:=bS (xs:=xs) (j:=i.toNat) (qAc hn);rw[qGo h0] at z;exact z
theorem aJ.aI(h:H p=none):aJ H (upd H p o):=fun b u e=>by
 rw[aQ (bG e h)];exact e
theorem aJ.ty{K:qAb}{H H':Hp}{v:V}{t:qAi}(s:aJ H H')(h:kC K H v t):kC K H' v t:=by
 cases h with
 | non=>exact .non
 | bl x=>exact .bl x
 | int i=>exact .int i
 | str x=>exact .str x
 | flt x=>exact .flt x
 | lst e=>exact .lst (s _ _ e)
 | frz e=>exact .frz (s _ _ e)
 | tup e=>exact .tup (s _ _ e)
 | dK e=>exact .dK (s _ _ e)
 | dT e=>exact .dT (s _ _ e)
 | ins e cl ha hn htk hm=>exact .ins (s _ _ e) cl ha hn htk hm
theorem jC:qCx "isinstance"=some (.builtin "isinstance"):=by decide +kernel
theorem iD:qCx "int"=some (.type "int"):=by decide +kernel
theorem zY:qCx "bool"=some (.type "bool"):=by decide +kernel
theorem fU:qCx "list"=some (.type "list"):=by decide +kernel
theorem vN:qCx "tuple"=some (.type "tuple"):=by decide +kernel
theorem bV:qCx "len"=some (.builtin "len"):=by decide +kernel
theorem tO:qCx "abs"=some (.builtin "abs"):=by decide +kernel
theorem ID{K:qAb}{C:Addr}(h2:qHs K (.ref C)=some (.type "type"))(h3:qAe K (.ref C) "__getattribute__"=some (some (.builtin "BaseException.__getattribute__")))(h4:qAe K (.ref C) "__getattr__"=some none)
  (h5:qAe K (.ref C) "__class__"=some (some (.builtin "object.__class__"))) (h6:qEc K (.builtin "object.__class__") "__get__"=some (some (.builtin "getset_descriptor.__get__"))) (h7:qFj K (.builtin "object.__class__")=some true)
  (h8:qCn K C (.type "object")=some true) (h9:qCn K C (.type "BaseException")=some true):pD K C:=by
 refine⟨?_,h2,h3,h4,h5,h6,h7,h8,h9⟩;delta qCn at h8;obtain⟨cd,a,_⟩:=Option.bind_eq_some_iff.mp h8;rw[a];rfl
inductive Kd:String->Prop where
 | non:Kd "NoneType"
 | bl:Kd "bool"
 | int:Kd "int"
 | str:Kd "str"
 | tup:Kd "tuple"
 | lst:Kd "list"
 | dic:Kd "dict"
theorem Kd.Nd(K:qAb){T:String}(h:Kd T):qDc K (.type T) (.type "int")=some (T == "int" || T == "bool"):=by
 cases h <;> rfl
theorem Kd.GJ(K:qAb){T:String}(h:Kd T):qDc K (.type T) (.type "bool")=some (T == "bool"):=by
 cases h <;> rfl
theorem Kd.CN(K:qAb){T:String}(h:Kd T):qDc K (.type T) (.type "list")=some (T == "list"):=by
 cases h <;> rfl
theorem Kd.CP(K:qAb){T:String}(h:Kd T):qDc K (.type T) (.type "tuple")=some (T == "tuple"):=by
 cases h <;> rfl
def jO:V->Bool
 | .int _=>true
 | _=>false
structure Pl (K:qAb) (H:Hp) (v:V):Prop where
 ex:∃T,kC K H v (.type T)/\Kd T
theorem Pl.int{K:qAb}{H:Hp}(i:Int):Pl K H (.int i):=⟨_,.int i,.int⟩
theorem Pl.jO{K:qAb}{H:Hp}{v:V}{T:String}(h:kC K H v (.type T)):jO v=(T == "int"):=by
 cases h <;> rfl
theorem Pl.same{K:qAb}{H H':Hp}{v:V}(h:Pl K H v)(s:aJ H H'):Pl K H' v:=let ⟨T,a,b⟩:=h.ex;⟨T,s.ty a,b⟩
def mG(lo hi:Int):V->Bool
 | .int i=>decide (lo<=i)&&decide (i<=hi)
 | _=>false
section
variable {X:Cx}{pins:List (Addr×Obj)}{σ:St}{H H':Hp}{s:qAp}{h':Heap}
theorem Inv.oJ{t':Nat}{fp:List Addr}(I:Inv X pins σ H s)(k:∀b o,b∉fp->s.heap.get? b=some o->h'.get? b=some o)(hf:∀b∈fp,gX X pins H b):Inv X pins σ H { s with heap:=h',toks:=t' }:=by
 have nit:∀b u,H b=some u->b∉fp:=fun b u e z=>by rw[(hf b z).1] at e;cases e
 refine I.step (g':=s.gens) (d':=s.drawn) (ch:=fp) (fun b hb=>?_) (fun b o _ _ hc e _=>k b o hc e) (fun b o _ _ hc e _=>⟨o.slots,k b o hc e⟩) (fun _ _ _ _ n=>n)
  (fun b o hc e=>⟨o,k b o hc e⟩) (fun _ _ e=>e) (fun _ _ _ e=>e) (fun b ps e=>⟨#[],by rw[e];simp⟩) (fun m hm=>?_) (fun b u e=>?_) I.bare
 .obtain⟨_,f1,_,f3,f4,f5⟩:=hf b hb;exact⟨f3,f1,f4,f5⟩
 .obtain⟨o,es,ep,ho,r⟩:=hm;exact⟨o,es,ep,k _ o (fun z=>(hf _ z).2.1 rfl) ho,r⟩
 .refine(I.cK b u e).kM (fun c v hc q=>k c v ?_ q) (fun _ q=>q) fun _ _ q=>q;rcases hc with z | z
  .rw[z];exact nit b u e
  .exact nit c _ z
end
@[reducible] def RN (A:qDf):qDf:={ A with handled:=none }
section
variable {X:Cx}{k j:Nat}{f:Addr}{fd:qCi}{ps:List Str}{sp:Sp}{x:Str}{p pos:Pos}{e:Expr}{es:List Expr}{t:TA}
end
end L2
namespace L2
open PySem PySem.Spec PyProof.Rows PySem.W PySem.Calls
end L2
namespace PySem.SeqAt
open AutoSeq1 (wpAny_loadPart')
open MeetsSeq MeetsSeq2 MeetsSeq3 SeqRoads2
theorem nZ(f:Nat->β->Sem (ForInStep β))(I:Nat->β->qAp->Prop)(Q:β->qAp->Prop)(n:Nat)
  (turn:∀i b s,i<n->I i b s->qBs M A (f i b) (fun r s'=>match r with | .yield b'=>I (i+1) b' s' | .done b'=>Q b' s') E s)
  (fin:∀b s,I n b s->Q b s) (b:β) (h:I 0 b s):qBs M A (forIn [0:n] b f) Q E s:=by
 rw[Std.Legacy.Range.forIn_eq_forIn_range'];refine wpAny_forIn_list f (fun rest b s=>∃i,i<=n/\rest=List.range' i (n-i)/\I i b s) Q ?_ ?_ _ b ⟨0,qBf _,?_,h⟩
 .rintro x rest b s ⟨i,hi,hr,hI⟩;have hlt:i<n:=by
   rcases qBj i n with z | z
   .exact z
   .rw[show n-i=0 by lia] at hr;cases hr
  obtain⟨k,hk⟩:∃k,n-i=k+1:=⟨n-i-1,by lia⟩;rw[hk,qMp] at hr;obtain⟨rfl,rfl⟩:=List.cons.inj hr;refine qFa (turn x b s hlt hI) (fun r s' hr=>?_) fun _ _ z=>z;cases r with
  | done b'=>exact hr
  | yield b'=>exact⟨x+1,hlt,by rw[show n-(x+1)=k by lia],hr⟩
 .rintro b s ⟨i,hi,hr,hI⟩;have:i=n:=by
   rcases qBj i n with z | z
   .obtain⟨k,hk⟩:∃k,n-i=k+1:=⟨n-i-1,by lia⟩;rw[hk,qMp] at hr;cases hr
   .lia
  subst this;exact fin _ _ hI
 .simp[Std.Legacy.Range.size]
theorem qT(l:Addr)(items:Array qAi)(n:Nat)(dd:Option Addr)(sl:Array (Option qAi))(x:qAi)(e:qAi->Bool)(j:Nat)(hj:j<items.size)
  (hit:e items[j]=true) (hno:∀m (hm:m<items.size),m<j->e items[m]=false) :
  Meets (Builtin.«tuple.index» ⟨[.ref l,x],[]⟩)
   (fun A R s=>s.heap.get? l=some { cls:=.type "tuple",dict:=dd,data:=.seq items n,slots:=sl }/\(∀y,y∈items->EqAt A.in1 s y x (e y))/\R (.ok (.ret (.int (j:Nat) s.toks))) { s with toks:=s.toks+1 }) :=
 .of_wp fun prog w A R s h=>by
  obtain⟨hp,g,d,tk,os⟩:=s;obtain⟨hl,he,h⟩:=h;wp_walk using wpAny_loadPart' hl,nZ _ (fun i b s'=>b.1=none/\s'=⟨hp,g,d,tk,os⟩/\i<=j) _ _
  case turn =>
   rintro i b s' hi ⟨hb,rfl,hij⟩;have hi':i<items.size:=by lia
   rw[qEp hi'];refine qAd (he _ (Array.getElem_mem hi') prog w _ _ ?_);rcases qBj i j with z | z
   .rw[hno i hi' z];wp_walk;exact⟨rfl,rfl,z⟩
   .obtain rfl:i=j:=by lia
    rw[hit];wp_walk;exact⟨_,rfl,h⟩
  case fin =>
   rintro⟨b1,b2⟩ s' ⟨hb,rfl,hij⟩;lia
  case h =>
   exact⟨rfl,rfl,qBf _⟩
end PySem.SeqAt
namespace L2
open PySem PySem.Spec PyProof.Rows
theorem aJ.Py{K:qAb}{H H':Hp}{a:Addr}{xs:List V}(e:aJ H H')(h:cQ K H a xs):cQ K H' a xs:=by
 rcases h with (h | ⟨o,h⟩) | h
 .exact .inl (.inl (e _ _ h))
 .exact .inl (.inr ⟨o,e _ _ h⟩)
 .exact .inr h
theorem aJ.upd_ne'(s:aJ H H')(h:H D=none):aJ H (upd H' D o):=fun b u e=>by
 rw[aQ (bG e h)];exact s b u e
theorem tP(F:α->β):∀xs:List α,((qAh xs.length).filterMap fun i=>(xs[i]?).bind fun x=>some (F x))=xs.map F
 | []=>rfl
 | x::r=>by
  rw[qAw,qKt,qCf,qDg];show F x::_=F x::r.map F;rw[<- tP F r];rfl
theorem cN(f:α->Option β):∀xs:List α,((qAh xs.length).filterMap fun i=>(xs[i]?).bind f)=xs.filterMap f
 | []=>rfl
 | x::r=>by
  rw[qAw,qKt,qCf,qDg,qCf,<- cN f r];rfl
theorem Pl.lL{K:qAb}{H:Hp}{x C dx C' dx':Addr}{fs fs':List (Str×V)}{v:V}(h:Pl K H v)(hx:H x=some (.ins C dx fs)):Pl K (upd H x (.ins C' dx' fs')) v:=by
 obtain⟨T,ty,kd⟩:=h.ex;refine⟨T,?_,kd⟩;have at_:∀b o,H b=some o->(∀C dx fs,o≠.ins C dx fs)->upd H x (.ins C' dx' fs') b=some o:=fun b o e n=>by
  rw[aQ]
  .exact e
  .rintro rfl;rw[hx] at e;exact n _ _ _ (Option.some.inj e).symm
 cases ty with
 | non=>exact .non
 | bl x=>exact .bl x
 | int i=>exact .int i
 | str x=>exact .str x
 | flt x=>exact .flt x
 | lst e=>exact .lst (at_ _ _ e (by intro _ _ _ z;cases z))
 | frz e=>exact .frz (at_ _ _ e (by intro _ _ _ z;cases z))
 | tup e=>exact .tup (at_ _ _ e (by intro _ _ _ z;cases z))
 | dK e=>exact .dK (at_ _ _ e (by intro _ _ _ z;cases z))
 | dT e=>exact .dT (at_ _ _ e (by intro _ _ _ z;cases z))
def SameBut(x:Addr)(H H':Hp):Prop:=∀b o,b≠x->H b=some o->H' b=some o
theorem aJ.but(s:aJ H H')(x:Addr):SameBut x H H':=fun b o _ e=>s b o e
theorem SameBut.then(a:SameBut x H H1)(b:aJ H1 H2):SameBut x H H2:=fun c o n e=>b c o (a c o n e)
theorem SameBut.jD(a:SameBut x H H1)(u:HO):SameBut x H (upd H1 x u):=fun c o n e=>by rw[aQ n];exact a c o n e
theorem SameBut.made(hx:H x=none)(hd:H dx=none)(ne:dx≠x)(s:SameBut x (upd (upd H dx (.own x)) x (.ins C dx [])) H'):aJ H H':=fun b o e=>by
 have n1:b≠x:=bG e hx;have n2:b≠dx:=bG e hd;exact s b o n1 (by rw[aQ n1,aQ n2];exact e)
theorem gY.up{P:qBl}{w:qCr}{K:qAb}{mg:Str->Option qAi}{base:Heap}{k:Nat}{f:Addr}{fd:qCi}{ps:List Str}{sp:Sp}(F:gY P w K mg base cP k f fd ps sp):gY P w K mg base (jB P w) k f fd ps sp :=
 ⟨F.len,fun A outer s H args us vs Q E hr he hb hv hs=>qFy (F.run A outer s H args us vs Q E hr he hb hv hs) fun r s' h=>by
  cases r with
  | error e=>exact False.elim h
  | ok fl=>cases fl <;> exact h⟩
structure Mx (K:qAb) (x qual:Str) (st:Stmt) (ps:List Str) (f:Addr) (fd:qCi):Prop where
 fn:Iy K x qual st f fd
 bd:∀us:List qAi,us.length=ps.length->qMi fd ⟨us,[]⟩=pure (ps.zip us)
theorem cY{K:qAb}{x qual:Str}{st:Stmt}{ps:List Str}{f:Addr}{oc:qAi}{od an:Option Addr}{osl:Array (Option qAi)}{kV doc pm cdv ct:qAi}
  (l:K.lookup f=some ⟨oc,od,.func (qBh x qual (bJ st) (bE st) (aH st) .none kV doc pm an cdv ct),osl⟩)
  (c:qBd K cdv qual=true) (k:qAu K (.ref f)=true)
  (hb:∀(kV doc pm:qAi) (an:Option Addr) (cdv ct:qAi) (us:List qAi),us.length=ps.length->qMi (qBh x qual (bJ st) (bE st) (aH st) .none kV doc pm an cdv ct) ⟨us,[]⟩=pure (ps.zip us)) :
  ∃fd,Mx K x qual st ps f fd:=⟨_,Cz l c k,hb kV doc pm an cdv ct⟩
structure Md (P:qBl) (w:qCr) (K:qAb) (mg:Str->Option qAi) (base:Heap) (k:Nat) (ps:List Str) (sp:Sp) (f:Addr):Prop where
 ex:∃fd,gY P w K mg base (jB P w) k f fd ps sp/\Binds K fd ps []
section
variable {P:qBl}{w:qCr}{K:qAb}{mg:Str->Option qAi}{base:Heap}{x qual:Str}{st:Stmt}{ps N:List Str}{f:Addr}{fd:qCi}{k j:Nat}{sp sp':Sp}
theorem Mx.tQ(t:Mx K x qual st ps f fd)(S:aN N ps (aH st))(len:∀vs H Q E,sp vs H Q E->vs.length=ps.length)
  (hbody:∀(cdv:qAi) (A:qDf) (outer:List Env) (s:qAp) (H:Hp) (vs:List V) (Q:VK) (E:XK),dE k (A.deeper (qIj qual (aH st) s.heap.objs.size f cdv))->sp vs H Q E ->
   ∃t,rG (nX cP P w K mg base N qual (aH st) f cdv A outer s H E).LL (bE st) t/\t { nx:=fun _ H'=>Q .non H',rt:=Q } (start N vs) H):Md P w K mg base (k+1) ps sp f :=
 ⟨fd,(t.fn.ok S len hbody).up,.all t.bd⟩
theorem Mx.CQ(t:Mx K x qual st ps f fd)(S:aN N ps (aH st))(len:∀vs H Q E,sp vs H Q E->vs.length=ps.length)
  (hbody:∀(cdv:qAi) (A:qDf) (outer:List Env) (s:qAp) (H:Hp) (vs:List V) (Q:VK) (E:XK),dE k (A.deeper (qIj qual (aH st) s.heap.objs.size f cdv))->sp vs H Q E ->
   ∃t,rG (nX (jB P w) P w K mg base N qual (aH st) f cdv A outer s H E) (bE st) t/\t { nx:=fun _ H'=>Q .non H',rt:=Q } (start N vs) H):Md P w K mg base (k+1) ps sp f :=
 ⟨fd,t.fn.CB S len hbody,.all t.bd⟩
theorem Md.up(M:Md P w K mg base k ps sp f)(h:k<=j):Md P w K mg base j ps sp f:=let ⟨fd,F,b⟩:=M.ex;⟨fd,⟨F.len,fun A outer s H args us vs Q E hr he hb hv hs=>F.run A outer s H args us vs Q E (hr.mono h) he hb hv hs⟩,b⟩
theorem Md.imp(M:Md P w K mg base k ps sp f)(h:∀vs H Q E,sp' vs H Q E->sp vs H Q E):Md P w K mg base k ps sp' f:=let ⟨fd,F,b⟩:=M.ex;⟨fd,F.imp h,b⟩
end
structure GK (K:qAb) (C:Addr) (m:Str) (f:Addr):Prop where
 ga:qEc K (.ref C) "__getattribute__"=some (some (.builtin "type.__getattribute__"))
 rd:qLv K C (.type "type")=true
 at_:qLw K (.ref C) (.type "type") m=some (.val (.ref f))
 kp:qAu K (.ref f)=true
section
variable {X:Cx}{Ex:XS}{k j:Nat}{f C:Addr}{ps:List Str}{sp:Sp}{x m:Str}{p pos apos:Pos}{e o:Expr}{es:List Expr}{ta:TE}{t:TA}
theorem rW(R:Pass X Ex)(hg:Gl X x)(hm:X.mg x=some (.ref C))(M:GK X.K C m f)(F:Md X.prog X.w X.K X.mg X.base k ps sp f)(hr:dE j X.A)(hj:k<=j)(ha:PA X (e::es) t)
  (hdb:(x == ("__debug__":Str))=false:=by decide)
  (hst:qBx (e::es) X.env=(false,eval e X.env)::qBx es X.env:=by rfl) (hpl:(qFb pos (qBx es X.env)).any (·.1)=false:=by rfl)
  (ht:eval (.Call (.Attribute (.Name x p) m apos) (e::es) [] pos) X.env=(do
   let ov <- eval (.Name x p) X.env
   qKd apos.atName
   let (f,first) <- qGz [ov] (qIr ov m pl)
   qMh pos f first (qFb pos (qBx (e::es) X.env)) (qGt pos (qEw [] X.env))):=by rfl) :
  PE X (.Call (.Attribute (.Name x p) m apos) (e::es) [] pos) (yL sp [] Ex t):=by
 intro pins s σ H Q I h;obtain⟨fd,F,hb⟩:=F.ex;refine qHk (pl:=pl) (cA (cB (v:=.ref C) hg hm rfl hdb pins s σ H (fun v H'=>v = .ref C/\H'=H) I ⟨rfl,rfl⟩) fun u s1 z9=>?_) ht;obtain⟨x,H1,I1,rx,ex,eH⟩:=z9;subst ex eH;obtain rfl:u=Value.ref C:=rx;refine PySem.W.method_cls I1.qL M.ga (PySem.W.cls_value I1.qL M.rd M.at_ rfl ?_);refine qFk (first:=[]) (h₀:=X.base) I.ok.mod.Gz M.kp (cA (ha pos pins _ σ _ _ (I1.tok _) h) fun us s2 ⟨vs,H2,I2,r,q2⟩=>⟨I2.qL,?_⟩) hst hpl;exact oH R F (hr.mono hj) hb .nil I2 r q2
def tR(K:qAb)(MO:Addr->Sp->Prop)(m:Str)(Ex:XS)(ta:TE)(t:TA):TE:=fun σ H Q=>ta σ H fun x H1=>∃a C dx fs g sp,x = .ref a/\H1 a=some (.ins C dx fs)/\fs.lookup m=none/\AO K C/\Meth K C m g/\MO g sp /\
 t σ H1 fun vs H2=>sp (x::vs) H2 Q fun c _ H'=>Ex c σ H'
theorem jP(R:Pass X Ex)(he:PE X o ta)(hr:dE j X.A)(hj:k<=j)(ha:PA X (e::es) t)
  (hst:qBx (e::es) X.env=(false,eval e X.env)::qBx es X.env:=by rfl) (hpl:(qFb pos (qBx es X.env)).any (·.1)=false:=by rfl)
  (ht:eval (.Call (.Attribute o m apos) (e::es) [] pos) X.env=(do
   let ov <- eval o X.env
   qKd apos.atName
   let (f,first) <- qGz [ov] (qIr ov m pl)
   qMh pos f first (qFb pos (qBx (e::es) X.env)) (qGt pos (qEw [] X.env))):=by rfl) :
  PE X (.Call (.Attribute o m apos) (e::es) [] pos) (tR X.K (fun g sp=>∃ps,Md X.prog X.w X.K X.mg X.base k ps sp g) m Ex ta t):=by
 intro pins s σ H Q I h;refine qHk (pl:=pl) (cA (he pins s σ H _ I h) fun u s1 z9=>?_) ht;obtain⟨x,H1,I1,rx,a,C,dx,fs,g,sp,ex,ea,l,c,hm,⟨ps,F⟩,q⟩:=z9;subst ex;obtain rfl:u=Value.ref a:=rx;obtain⟨fd,F,hb⟩:=F.ex;refine pA I1 ea c hm l ?_;refine qFk (first:=[.ref a]) (h₀:=X.base) I.ok.mod.Gz hm.kp (cA (ha pos pins s1 σ H1 _ I1 q) fun us s2 ⟨vs,H2,I2,r,q2⟩=>⟨I2.qL,?_⟩) hst hpl;exact oH (us:=.ref a::us) (vs:=.ref a::vs) R F (hr.mono hj) hb .nil I2 (.cons rfl r) (by rw[qCl];exact q2)
theorem fO(R:Pass X Ex)(he:PE X o ta)(hr:dE j X.A)(hj:k<=j)
  (ht:eval (.Call (.Attribute o m apos) [] [] pos) X.env=(do
   let ov <- eval o X.env
   qKd apos.atName
   let (f,first) <- qGz [ov] (qIr ov m pl)
   qMh pos f first (qFb pos (qBx [] X.env)) (qGt pos (qEw [] X.env))):=by rfl) :
  PE X (.Call (.Attribute o m apos) [] [] pos) (tR X.K (fun g sp=>∃ps,Md X.prog X.w X.K X.mg X.base k ps sp g) m Ex ta kD):=by
 intro pins s σ H Q I h;refine qHk (pl:=pl) (cA (he pins s σ H _ I h) fun u s1 z9=>?_) ht;obtain⟨x,H1,I1,rx,a,C,dx,fs,g,sp,ex,ea,l,c,hm,⟨ps,F⟩,q⟩:=z9;subst ex;obtain rfl:u=Value.ref a:=rx;obtain⟨fd,F,hb⟩:=F.ex;refine pA I1 ea c hm l ?_;exact PySem.W.callWith_K0 (first:=[.ref a]) I1.qL hm.kp (oH (us:=[.ref a]) (vs:=[.ref a]) R F (hr.mono hj) hb .nil I1 (.cons rfl .nil) q)
def IE(C:Addr)(sp:Sp)(Ex:XS)(t:TA):TE:=fun σ H Q=>t σ H fun vs H1=>∀x dx,H1 x=none->H1 dx=none->dx≠x ->
 sp (.ref x::vs) (upd (upd H1 dx (.own x)) x (.ins C dx [])) (fun v H2=>v = .non/\Q (.ref x) H2) fun c _ H'=>Ex c σ H'
theorem AW(R:Pass X Ex)(M:Mk X.K C f)(F:gY X.prog X.w X.K X.mg X.base (jB X.prog X.w) k f fd ps sp)(hr:dE (k+1) X.A)(hb:Binds X.K fd ps [])
  (I:Inv X pins σ H s) (r:Vals vs us)
  (h:∀x dx,H x=none->H dx=none->dx≠x->sp (.ref x::vs) (upd (upd H dx (.own x)) x (.ins C dx [])) (fun v H2=>v = .non/\Q (.ref x) H2) fun c _ H'=>Ex c σ H') :
  qBs (qCb X.prog X.w) X.A (call (.ref C) us) (EP X pins σ Q) X.xe s:=by
 have hq:=h (s.heap.objs.size+1) s.heap.objs.size (I.cK.fresh (qGn _)) (I.cK.fresh (qAl _)) (qBk (qFi _));have I2:=Inv.made (C:=C) I;have r2:Vals (V.ref (s.heap.objs.size+1)::vs) (Value.ref (s.heap.objs.size+1)::us):=.cons rfl r;have hl:(Value.ref (s.heap.objs.size+1)::us).length=ps.length:=by
  have e:=r2.length;rw[F.len _ _ _ _ hq] at e;exact e.symm
 have hb2:=hb { s with heap:=(s.heap.push qDp).push (qEf C s.heap.objs.size) } (Value.ref (s.heap.objs.size+1)::us) I2.qL (by rw[qCl];exact hl);rw[qCl] at hb2;refine qGg (Cp (f:=f) I.qL M.makes M.init (beq_iff_eq.mp M.fn) (qFy (F.run _ X.stack _ _ ⟨Value.ref (s.heap.objs.size+1)::us,[]⟩ (Value.ref (s.heap.objs.size+1)::us) _ _ _ (hr.make C us [])
  (I2.ER.make C us []) hb2 r2 hq) fun r s' hq'=>?_))
 cases r with
 | error ev =>
  obtain⟨e,C',H',rfl,Fl,q⟩:=hq';exact R.on pins σ _ _ e C' H' s' I2 Fl q
 | ok fl =>
  cases fl with
  | ret u =>
   obtain⟨v,H',I3,rv,ev,q3⟩:=I2.after hq';subst ev;exact⟨rv,⟨V.ref (s.heap.objs.size+1),H',I3,rfl,q3⟩⟩
  | next=>exact False.elim hq'
  | brk=>exact False.elim hq'
  | cont=>exact False.elim hq'
theorem eN(R:Pass X Ex)(M:Mk X.K C f)(F:Md X.prog X.w X.K X.mg X.base k ps sp f)(hr:dE j X.A)(hj:k+1<=j)(hg:Gl X x)(hm:X.mg x=some (.ref C))
  (ha:PA X (e::es) t) (hdb:(x == ("__debug__":Str))=false:=by decide) (he:qBx (e::es) X.env=(false,eval e X.env)::qBx es X.env:=by rfl) (hpl:(qFb pos (qBx es X.env)).any (·.1)=false:=by rfl) :
  PE X (.Call (.Name x p) (e::es) [] pos) (IE C sp Ex t):=by
 intro pins s σ H Q I h;obtain⟨fd,F,hb⟩:=F.ex;refine qEq (k9 I hg hm ?_ hdb);refine qFk (h₀:=X.base) I.ok.mod.Gz M.kp (cA (ha pos pins s σ H _ I h) fun us s1 ⟨vs,H1,I1,r,q⟩=>⟨I1.qL,?_⟩) he hpl;exact AW R M F (hr.mono hj) hb I1 r q
end
structure IF (K:qAb) (C:Addr):Prop where
 cl:AO K C
 ca:qAe K (.ref C) "__class__"=some (some (.builtin "object.__class__"))
 cg:qEc K (.builtin "object.__class__") "__get__"=some (some (.builtin "getset_descriptor.__get__"))
 ct:qFj K (.builtin "object.__class__")=some true
 mo:qCn K C (.type "object")=some true
section
variable {X:Cx}
theorem fB(hh:X.calm=true):eZ X (.builtin "sum") (fun xs H Q=>∃(p:Addr) (ns:List Int),xs=[.ref p]/\(aV X.K H p (ns.map V.int)\/cQ X.K H p (ns.map V.int))/\Q (.int ns.sum) H):=by
 intro pins s σ H xs us Q I r h;obtain⟨p,ns,rfl,hq,q⟩:=h;obtain⟨u,rfl,rx⟩:=vals1 r;cases rx;rcases hq with hq | hq
 .obtain⟨its,r',pl,hz⟩:=I.list hq;have hi:=intsAre_of r';obtain⟨xs,hx⟩:=hi.allInts.items;have hl':s.heap.IsList p (intItems xs):=hx▸pl.isList;refine sum_intListG (I.ok.hd hh) hl' fun h' tk t' hk=>?_;have e1:ns=xs.toList.map (·.1):=by
   rw[<- nums_intItems,<- hx];exact(show numsOf its.toArray.toList=ns from hi.numsOf).symm
  have e2:preSum (numAt xs) xs.size=ns.sum:=by
   rw[preSum_eq,qDw (by simp),e1]
  rw[e2];exact⟨.int ns.sum,H,I.kept (t':=tk) hk,⟨_,rfl⟩,q⟩
 .obtain⟨its,r',pl,hz⟩:=I.tuple hq;have hi:=intsAre_of r';obtain⟨xs,hx⟩:=hi.allInts.items;have hl':s.heap.IsTuple p (intItems xs):=hx▸pl;refine PySem.W.ktm_sumG (I.ok.hd hh) hl' fun h' tk t' hk=>?_;have e1:ns=xs.toList.map (·.1):=by
   rw[<- nums_intItems,<- hx];exact(show numsOf its.toArray.toList=ns from hi.numsOf).symm
  have e2:preSum (numAt xs) xs.size=ns.sum:=by
   rw[preSum_eq,qDw (by simp),e1]
  rw[e2];exact⟨.int ns.sum,H,I.kept (t':=tk) hk,⟨_,rfl⟩,q⟩
theorem nM:∀{us:List qAi},Vals (bs.map V.bl) us->LSm.BoolsAre us bs:=by
 induction bs with
 | nil=>intro us h;cases h;exact .nil
 | cons b bs ih =>
  intro us h;cases h with
  | cons r t=>cases r;exact .cons b (ih t)
theorem pE(hh:X.calm=true):eZ X (.builtin "all") (fun xs H Q=>∃(p:Addr) (bs:List Bool),xs=[.ref p]/\aV X.K H p (bs.map V.bl)/\Q (.bl (bs.all id)) H):=by
 intro pins s σ H xs us Q I r h;obtain⟨p,bs,rfl,hq,q⟩:=h;obtain⟨u,rfl,rx⟩:=vals1 r;cases rx;obtain⟨its,r',pl,hz⟩:=I.list hq;have hb:=nM r';have hl:=pl.isList;have hlt:p<s.heap.objs.size:=by obtain⟨_,e,_⟩:=hl;exact qAy e
 refine call_all_walk (qEa hl ?_);refine⟨s.heap.objs.size,[s.heap.objs.size,p],[s.heap.objs.size],its.toArray.size,_,_,fun i=>(bs[i]?).getD true,rfl,Walks.list (A:=X.A.in1) (I.ok.hd hh) _ p (qBk hlt) its.toArray,
  ⟨⟨_,qAz _ rfl,rfl,rfl⟩,hl.push _⟩,fun i v s' Q' E' hP hQ=>?_,fun h' tk hk=>?_⟩
 .obtain⟨b,e,rfl⟩:=hb.get i v (by simpa using hP);simp only[e,qIx] at hQ;exact qCw hQ
 .have e:((qAh its.toArray.size).all fun i=>(bs[i]?).getD true)=bs.all id:=by
   rw[qBc,hb.length];exact LSm.range_all bs
  rw[e];exact⟨.bl _,H,I.kept (t':=tk) (LSm.kept_iter hk),rfl,q⟩
theorem vO(hh:X.calm=true):eZ X (.builtin "any") (fun xs H Q=>∃(p:Addr) (bs:List Bool),xs=[.ref p]/\aV X.K H p (bs.map V.bl)/\Q (.bl (bs.any id)) H):=by
 intro pins s σ H xs us Q I r h;obtain⟨p,bs,rfl,hq,q⟩:=h;obtain⟨u,rfl,rx⟩:=vals1 r;cases rx;obtain⟨its,r',pl,hz⟩:=I.list hq;have hb:=nM r';have hl:=pl.isList;have hlt:p<s.heap.objs.size:=by obtain⟨_,e,_⟩:=hl;exact qAy e
 refine call_any_walk (qEa hl ?_);refine⟨s.heap.objs.size,[s.heap.objs.size,p],[s.heap.objs.size],its.toArray.size,_,_,fun i=>(bs[i]?).getD false,rfl,Walks.list (A:=X.A.in1) (I.ok.hd hh) _ p (qBk hlt) its.toArray,
  ⟨⟨_,qAz _ rfl,rfl,rfl⟩,hl.push _⟩,fun i v s' Q' E' hP hQ=>?_,fun h' tk hk=>?_⟩
 .obtain⟨b,e,rfl⟩:=hb.get i v (by simpa using hP);simp only[e,qIx] at hQ;exact qCw hQ
 .have e:((qAh its.toArray.size).any fun i=>(bs[i]?).getD false)=bs.any id:=by
   rw[qBc,hb.length];exact LSm.range_any bs
  rw[e];exact⟨.bl _,H,I.kept (t':=tk) (LSm.kept_iter hk),rfl,q⟩
theorem iE:qCx "sum"=some (.builtin "sum"):=by decide +kernel
theorem yN:qCx "all"=some (.builtin "all"):=by decide +kernel
theorem yO:qCx "any"=some (.builtin "any"):=by decide +kernel
def Fe(K:qAb):V->List V->Hp->VK->Prop:=fun x vs H Q=>∃(p:Addr) (ns:List Int) (i:Int) (j:Nat),x = .ref p/\vs=[.int i]/\cQ K H p (ns.map V.int)/\ns[j]?=some i/\(∀m,m<j->ns[m]?≠some i)/\Q (.int (j:Nat)) H
def Sg(i:Int)(u:qAi):Bool:=match u with
 | .int k _=>k == i
 | _=>false
theorem dN:Iq X "list.append" tK:=mQ
theorem CS:Iq X "tuple.index" (Fe X.K):=by
 intro pins s σ H x vs v us Q I rx rv h;obtain⟨p,ns,i,j,rfl,rfl,hq,hj,hno,q⟩:=h;cases rx;obtain⟨u,rfl,ru⟩:=rv.one;obtain⟨t,rfl⟩:=(show ∃t,u=Value.int i t from ru);obtain⟨its,r',pl,hz⟩:=I.tuple hq;have hi:=intsAre_of r';obtain⟨⟨oc,od,odt,osl⟩,h1,h2,n,h3⟩:=id pl;dsimp only at h2 h3;subst h2 h3;have at_:∀(m:Nat) (k:Int),ns[m]?=some k->∃t,its[m]?=some (.int k t):=fun m k hm=>by
  obtain⟨u,hu,ru⟩:=r'.get (i:=m) (x:=.int k) (by rw[qAf,hm];rfl);obtain⟨t,rfl⟩:=(show ∃t,u=Value.int k t from ru);exact⟨t,hu⟩
 have hl:=r'.length;rw[qAa] at hl;obtain⟨t1,ht1⟩:=at_ j i hj;have hjl:j<its.length:=by
  rcases qBj j its.length with z | z
  .exact z
  .rw[qCu z] at ht1;cases ht1
 refine qHr F.slot_tuple_index ⟨_,h1,rfl⟩ F.entry_tuple_index (F.args_tuple_index_2 _ _) (SeqAt.qT p its.toArray n od osl (.int i t) (Sg i) j (by simpa using hjl) ?_ fun m hm hmj=>?_) ⟨h1,fun y hy=>?_,?_⟩
 .have e:its.toArray[j]'(by simpa using hjl) = .int i t1:=by
   have:=qAc hjl;rw[ht1] at this;simpa using (Option.some.inj this).symm
  rw[e];show(i == i)=true;simp
 .have hml:m<its.length:=by simpa using hm
  have hmn:m<ns.length:=by lia
  obtain⟨t2,ht2⟩:=at_ m _ (qAc hmn);have e:its.toArray[m]'hm = .int ns[m] t2:=by
   have:=qAc hml;rw[ht2] at this;simpa using (Option.some.inj this).symm
  rw[e];show(ns[m] == i)=false;rw[beq_eq_false_iff_ne];intro z;exact hno m hmj (by rw[qAc hmn,z])
 .have hy':y∈its:=by simpa using hy
  obtain⟨m,hm,e⟩:=qLq hy';have hmn:m<ns.length:=by lia
  obtain⟨t2,ht2⟩:=at_ m _ (qAc hmn);rw[qAc hm,e] at ht2;obtain rfl:y = .int ns[m] t2:=Option.some.inj ht2;exact SeqAt.EqAt.int_int _ _ _ _
 .exact⟨.int (j:Nat),H,I.tok _,⟨_,rfl⟩,q⟩
mutual
inductive Dat (K:qAb) (H:Hp):V->qGr->Prop
 | int (i:Int):Dat K H (.int i) (.int i)
 | lst {p:Addr}{xs:List V}{ds:List qGr}:aV K H p xs->DatAll K H xs ds->Dat K H (.ref p) (.list ds)
 | tup {p:Addr}{xs:List V}{ds:List qGr}:cQ K H p xs->DatAll K H xs ds->Dat K H (.ref p) (.tuple ds)
inductive DatAll (K:qAb) (H:Hp):List V->List qGr->Prop
 | nil:DatAll K H [] []
 | cons {x:V}{d:qGr}{xs:List V}{ds:List qGr}:Dat K H x d->DatAll K H xs ds->DatAll K H (x::xs) (d::ds)
end
end
def Qo(K:qAb)(tl:TE):TI:=fun σ H R=>tl σ H fun x H1=>∃a,x = .ref a/\(((∃xs,aV K H1 a xs)/\R (uP K a) H1)\/((∃xs,cQ K H1 a xs)/\R (MD K a) H1))
theorem IG(hl:PE X l tl):PI X tg l (Qo X.K tl):=by
 intro pins s σ H R I h;refine cA (hl pins s σ H _ I h) fun v s1 z9=>?_;obtain⟨x,H1,I1,r1,q1⟩:=z9;obtain⟨a,e,q⟩:=q1;subst e;cases r1;rcases q with ⟨⟨xs,hq⟩,q⟩ | ⟨⟨xs,hq⟩,q⟩
 .obtain⟨its,rv,p,hz⟩:=I1.list hq;refine qEa p.isList ?_;refine⟨s1.heap.objs.size,[s1.heap.objs.size],_,_,H1,rfl,I1.kept (t':=s1.toks) fun b o e=>qAk _ e,rH a _,⟨_,qAz _ rfl,rfl,rfl⟩,fun b hb=>?_,q⟩;have e:b=s1.heap.objs.size:=by simpa using hb
  subst e;exact I1.qP (qAl _) (I1.cK.fresh (qAl _))
 .obtain⟨its,rv,p,hz⟩:=I1.tuple hq;refine wpAny_pyIter_tuple (show s1.heap.IsTuple a its.toArray from p) ?_;refine⟨s1.heap.objs.size,[s1.heap.objs.size],_,_,H1,rfl,I1.kept (t':=s1.toks) fun b o e=>qAk _ e,xV a _,⟨_,qAz _ rfl,rfl,rfl⟩,fun b hb=>?_,q⟩;have e:b=s1.heap.objs.size:=by simpa using hb
  subst e;exact I1.qP (qAl _) (I1.cK.fresh (qAl _))
theorem lM{prog:qBl}{w:qCr}{A:qDf}{E:qAi->qAp->Prop}{s:qAp}{t sl:Addr}{items:Array qAi}{vl vu:qAi}{lo hi:Option Int}{Q:qAi->qAp->Prop}(ht:qNw s.heap t items)(hs:s.heap.IsSliceOf sl vl vu .none)(pl:qJv vl lo)(pu:qJv vu hi)
  (h0:HT.fJ items.size 0 lo=0) (h1:HT.fJ items.size items.size hi=items.size)
  (h:Q (.ref t) s):qBs (qCb prog w) A (qId (.ref t) (.ref sl)) Q E s:=by
 obtain⟨os,hos,hcs,hds⟩:=id hs;have hTs:s.TypeIs (.ref sl) "slice":=⟨os,hos,hcs⟩;delta qId;try with_reducible refine qCm ?_
 first | refine qAd (qAm ?_) | skip
 refine qAd (wpAny_sequenceKey ht.typeIs #[1] ?_);refine qAd (qGd (name:=Str.ofString "__getitem__") ht.typeIs qEj
  (qFs qEj ht.typeIs entry_tuple_getitem ?_ (args_tuple_getitem _ _)))
 show qBs _ _ (Builtin.Tuple.tupleItemsOf (.ref t) >>= _) _ _ s;refine qAd (tupleItemsOf_ ht ?_);refine qAd (wpAny_typeOf hTs ?_);rw[if_pos (by decide)];refine qAd (HT.iL hs pl pu ?_);have hy:(((HT.fJ items.size 0 lo:Nat):Int) == 0&&(1:Int) == 1&&(HT.fJ items.size items.size hi-HT.fJ items.size 0 lo) == items.size)=true:=by
  rw[h0,h1];simp
 show qBs _ _ (if (((HT.fJ items.size 0 lo:Nat):Int) == 0&&(1:Int) == 1&&(HT.fJ items.size items.size hi-HT.fJ items.size 0 lo) == items.size)=true then _ else _) _ _ s;rw[if_pos hy];refine qAd (m:=Builtin.Tuple.tupleIsExact (.ref t)) ?_;delta Builtin.Tuple.tupleIsExact;refine qAd (wpAny_typeOf ht.typeIs (qAm ?_));rw[if_pos (by decide)];first
  | exact qAd (wpAny_rule (qAm ⟨_,rfl,qAm h⟩))
  | exact qAd (wpAny_rule (qAd (qAm (qAm ⟨_,rfl,qAm h⟩))))
def Qp(K:qAb):V->Option Int->Option Int->Hp->VK->Prop:=fun x lo hi H Q=>∃a xs,x = .ref a/\cQ K H a xs/\∀p H',aJ H H'->cQ K H' p (gH xs lo hi)->Q (.ref p) H'
theorem zZ:LO X (Qp X.K):=by
 intro pins s σ H x v vl vu lo hi sl Q I rx hs pl pu h;obtain⟨a,xs,rfl,hx,q⟩:=h;by_cases hw:HT.fJ xs.length 0 lo=0/\HT.fJ xs.length xs.length hi=xs.length
 .cases rx
  obtain⟨its,r,ht,hz⟩:=I.tuple hx;have hlen:its.toArray.size=xs.length:=by rw[qBc];exact r.length.symm
  exists "tuple",_,PyProof.Rows.slot_tuple_getitem.lookup,ht.typeIs;refine lM ht hs pl pu (by rw[hlen];exact hw.1) (by rw[hlen];exact hw.2) ⟨.ref a,H,I,rfl,q a H (.refl H) ?_⟩;delta gH;rw[hw.1,hw.2,qNd,qOg,qEk];exact hx
 .exact Io pins s σ H (.ref a) v vl vu lo hi sl Q I rx hs pl pu ⟨a,xs,rfl,hx,hw,fun p hp=>q p _ (.aI hp) (cQ.of aC)⟩
section
variable {K:qAb}{a:Addr}{xs:List V}{σ0:St}{H1:Hp}{i0:Nat}{c:TT}{te:TE}{Q:Addr->Hp->Prop}
theorem cV(f:Nat->V->Option V)(hq:aV K H1 a xs)(hn:xs.length<=qAg)
  (step:∀(i:Nat) (x:V) (H2:Hp) (k:VK) (k0:Hp->Prop),aJ H1 H2->xs[i]?=some x->(∀y,f i x=some y->∀H3,aJ H2 H3->k y H3)->(f i x=none->∀H3,aJ H2 H3->k0 H3) ->
   c (σ0.set i0 (some x)) H2 fun b H4=>if b=true then te (σ0.set i0 (some x)) H4 k else k0 H4)
  (h:∀D H2,H1 D=none->aJ H1 H2->H2 D=some (.lst ((qAh xs.length).filterMap fun i=>(xs[i]?).bind (f i)))->Q D H2) :
  ∀D,H1 D=none->∃W:Nat->Nat->St->Hp->Prop,(∃m,W 0 m σ0 (upd H1 D (.lst [])))/\∀i m σ1 H2,W i m σ1 H2 ->
   ((uP K a).stop i H2/\Q D H2)\/((uP K a).go i H2/\∃N:St->Hp->Prop,(∀σ' H',N σ' H'->∃m',m'<m/\W (i+1) m' σ' H') /\
    ∀x H',(uP K a).tE i H2 x H'->bC i0 x σ1 H' fun σ2 H3=>c σ2 H3 fun b H4=>if b=true then te σ2 H4 fun y H5=>∃xs,H5 D=some (.lst xs)/\xs.length<qAg/\N σ2 (upd H5 D (.lst (xs++[y]))) else N σ2 H4):=by
 intro D hD;exists fun i m σ1 H2=>σ1.set i0 none=σ0.set i0 none/\aJ H1 H2/\H2 D=some (.lst ((qAh i).filterMap fun i=>(xs[i]?).bind (f i)))/\i<=xs.length/\m=xs.length-i,⟨xs.length,rfl,.aI hD,aC,qBf _,rfl⟩;rintro i m σ1 H2 ⟨hσ,hs,hd,hi,rfl⟩;have hset:∀v:Option V,σ1.set i0 v=σ0.set i0 v:=fun v=>by
  have z:=congrArg (fun l=>qIc l i0 v) hσ;simpa using z
 rcases qBj i xs.length with hlt | hge
 .right
  refine⟨⟨xs,xs[i],hs.seq hq,by simp[hlt]⟩,fun σ' H'=>σ'.set i0 none=σ0.set i0 none/\aJ H1 H'/\H' D=some (.lst ((qAh (i+1)).filterMap fun i=>(xs[i]?).bind (f i))),(by rintro σ' H' ⟨a,b,c⟩;exact ⟨xs.length-(i+1),by lia,a,b,c,hlt,rfl⟩),?_⟩;rintro x H' ⟨rfl,hx⟩;have hx:=hx xs (hs.seq hq);show c (σ1.set i0 (some x)) _ _;rw[hset];refine step i x _ _ _ hs hx (fun y hy H3 hs3=>⟨_,hs3 _ _ hd,?_,?_,?_,?_⟩) fun hno H3 hs3=>⟨?_,hs.trans hs3,?_⟩
  .refine qBi (qCy _ _) ?_;rw[qBg];lia
  .simp
  .refine(hs.trans hs3).upd_ne' hD
  .rw[aC,qCt,qBy];simp[hx,hy]
  .simp
  .rw[hs3 _ _ hd,qCt,qBy];simp[hx,hno]
 .left
  obtain rfl:i=xs.length:=qDe hi hge;exact⟨⟨xs,hs.seq hq,qAl _⟩,h D _ hD hs hd⟩
theorem CT(f:Nat->V->Option V)(hq:cQ K H1 a xs)(hn:xs.length<=qAg)
  (step:∀(i:Nat) (x:V) (H2:Hp) (k:VK) (k0:Hp->Prop),aJ H1 H2->xs[i]?=some x->(∀y,f i x=some y->∀H3,aJ H2 H3->k y H3)->(f i x=none->∀H3,aJ H2 H3->k0 H3) ->
   c (σ0.set i0 (some x)) H2 fun b H4=>if b=true then te (σ0.set i0 (some x)) H4 k else k0 H4)
  (h:∀D H2,H1 D=none->aJ H1 H2->H2 D=some (.lst ((qAh xs.length).filterMap fun i=>(xs[i]?).bind (f i)))->Q D H2) :
  ∀D,H1 D=none->∃W:Nat->Nat->St->Hp->Prop,(∃m,W 0 m σ0 (upd H1 D (.lst [])))/\∀i m σ1 H2,W i m σ1 H2 ->
   ((MD K a).stop i H2/\Q D H2)\/((MD K a).go i H2/\∃N:St->Hp->Prop,(∀σ' H',N σ' H'->∃m',m'<m/\W (i+1) m' σ' H') /\
    ∀x H',(MD K a).tE i H2 x H'->bC i0 x σ1 H' fun σ2 H3=>c σ2 H3 fun b H4=>if b=true then te σ2 H4 fun y H5=>∃xs,H5 D=some (.lst xs)/\xs.length<qAg/\N σ2 (upd H5 D (.lst (xs++[y]))) else N σ2 H4):=by
 intro D hD;exists fun i m σ1 H2=>σ1.set i0 none=σ0.set i0 none/\aJ H1 H2/\H2 D=some (.lst ((qAh i).filterMap fun i=>(xs[i]?).bind (f i)))/\i<=xs.length/\m=xs.length-i,⟨xs.length,rfl,.aI hD,aC,qBf _,rfl⟩;rintro i m σ1 H2 ⟨hσ,hs,hd,hi,rfl⟩;have hset:∀v:Option V,σ1.set i0 v=σ0.set i0 v:=fun v=>by
  have z:=congrArg (fun l=>qIc l i0 v) hσ;simpa using z
 rcases qBj i xs.length with hlt | hge
 .right
  refine⟨⟨xs,xs[i],hs.Py hq,by simp[hlt]⟩,fun σ' H'=>σ'.set i0 none=σ0.set i0 none/\aJ H1 H'/\H' D=some (.lst ((qAh (i+1)).filterMap fun i=>(xs[i]?).bind (f i))),(by rintro σ' H' ⟨a,b,c⟩;exact ⟨xs.length-(i+1),by lia,a,b,c,hlt,rfl⟩),?_⟩;rintro x H' ⟨rfl,hx⟩;have hx:=hx xs (hs.Py hq);show c (σ1.set i0 (some x)) _ _;rw[hset];refine step i x _ _ _ hs hx (fun y hy H3 hs3=>⟨_,hs3 _ _ hd,?_,?_,?_,?_⟩) fun hno H3 hs3=>⟨?_,hs.trans hs3,?_⟩
  .refine qBi (qCy _ _) ?_;rw[qBg];lia
  .simp
  .refine(hs.trans hs3).upd_ne' hD
  .rw[aC,qCt,qBy];simp[hx,hy]
  .simp
  .rw[hs3 _ _ hd,qCt,qBy];simp[hx,hno]
 .left
  obtain rfl:i=xs.length:=qDe hi hge;exact⟨⟨xs,hs.Py hq,qAl _⟩,h D _ hD hs hd⟩
end
section
variable {X:Cx}
theorem IH:qCx "min"=some (.builtin "min"):=by decide +kernel
end
section
variable {K:qAb}{lo:Int}{n:Nat}{σ0:St}{H1:Hp}{i0:Nat}{c:TT}{te:TE}{Q:Addr->Hp->Prop}
theorem lN(f:Nat->Option V)(hn:n<=qAg)
  (step:∀(i:Nat) (H2:Hp) (k:VK) (k0:Hp->Prop),aJ H1 H2->i<n->(∀y,f i=some y->∀H3,aJ H2 H3->k y H3)->(f i=none->∀H3,aJ H2 H3->k0 H3) ->
   c (σ0.set i0 (some (.int (lo+(i:Int))))) H2 fun b H4=>if b=true then te (σ0.set i0 (some (.int (lo+(i:Int))))) H4 k else k0 H4)
  (h:∀D H2,H1 D=none->aJ H1 H2->H2 D=some (.lst ((qAh n).filterMap f))->Q D H2) :
  ∀D,H1 D=none->∃W:Nat->Nat->St->Hp->Prop,(∃m,W 0 m σ0 (upd H1 D (.lst [])))/\∀i m σ1 H2,W i m σ1 H2 ->
   ((xR lo n).stop i H2/\Q D H2)\/((xR lo n).go i H2/\∃N:St->Hp->Prop,(∀σ' H',N σ' H'->∃m',m'<m/\W (i+1) m' σ' H') /\
    ∀x H',(xR lo n).tE i H2 x H'->bC i0 x σ1 H' fun σ2 H3=>c σ2 H3 fun b H4=>if b=true then te σ2 H4 fun y H5=>∃xs,H5 D=some (.lst xs)/\xs.length<qAg/\N σ2 (upd H5 D (.lst (xs++[y]))) else N σ2 H4):=by
 intro D hD;exists fun i m σ1 H2=>σ1.set i0 none=σ0.set i0 none/\aJ H1 H2/\H2 D=some (.lst ((qAh i).filterMap f))/\i<=n/\m=n-i,⟨n,rfl,.aI hD,aC,qBf _,rfl⟩;rintro i m σ1 H2 ⟨hσ,hs,hd,hi,rfl⟩;have hset:∀v:Option V,σ1.set i0 v=σ0.set i0 v:=fun v=>by
  have z:=congrArg (fun l=>qIc l i0 v) hσ;simpa using z
 rcases qBj i n with hlt | hge
 .right
  refine⟨hlt,fun σ' H'=>σ'.set i0 none=σ0.set i0 none/\aJ H1 H'/\H' D=some (.lst ((qAh (i+1)).filterMap f)),(by rintro σ' H' ⟨a,b,c⟩;exact ⟨n-(i+1),by lia,a,b,c,hlt,rfl⟩),?_⟩;rintro x H' ⟨rfl,rfl⟩;show c (σ1.set i0 (some (.int (lo+(i:Int))))) _ _;rw[hset];refine step i _ _ _ hs hlt (fun y hy H3 hs3=>⟨_,hs3 _ _ hd,?_,?_,?_,?_⟩) fun hno H3 hs3=>⟨?_,hs.trans hs3,?_⟩
  .refine qBi (qCy _ _) ?_;rw[qBg];lia
  .simp
  .exact(hs.trans hs3).upd_ne' hD
  .rw[aC,qCt,qBy];simp[hy]
  .simp
  .rw[hs3 _ _ hd,qCt,qBy];simp[hno]
 .left
  obtain rfl:i=n:=qDe hi hge;exact⟨qAl _,h D _ hD hs hd⟩
end
section
variable {X:Cx}
theorem AX(K:qAb)(hh:X.calm=true)(h:X.K=K:=by rfl):eZ X (.builtin "sum") (fun xs H Q=>∃(p:Addr) (ns:List Int),xs=[.ref p]/\(aV K H p (ns.map V.int)\/cQ K H p (ns.map V.int))/\Q (.int ns.sum) H):=by
 subst h;exact fB hh
theorem yP:qCx "str"=some (.type "str"):=by decide +kernel
theorem tS:qCx "max"=some (.builtin "max"):=by decide +kernel
end
def CU(K:qAb)(l:Addr):It :=
  ⟨fun i H=>∃xs x,aV K H l xs/\xs[i]?=some x,
   fun i H v H'=>∃t x,v = .ref t/\H t=none/\H'=upd H t (.tup [.int (i:Int),x])/\∀xs,aV K H l xs->xs[i]?=some x,
   fun i H=>∃xs,aV K H l xs/\xs.length<=i⟩
def II(e it l:Addr)(i:Nat)(h:Heap):Prop:=(∃old,IsEnum h e it (i:Int) old)/\h.IsListIter it l i
theorem AY{P:qBl}{w:qCr}{K:qAb}{elts:List Expr}{x1}{pos:Pos}{e it l:Addr}(hne:e≠it):
  Turn P w K (.Tuple elts x1 pos) (CU K l) [e,it] e (II e it l) where
 mem:=by simp
 obj:=fun i h ⟨⟨old,he⟩,⟨o,ho,_,d⟩⟩ b hb=>by
  simp only[qEe,qCs,or_false] at hb;rcases hb with rfl | rfl
  .exact⟨_,he,fun v q=>nomatch q⟩
  .exact⟨_,ho,fun v q=>by rw[d] at q;cases q⟩
 keep:=fun i h h' ⟨⟨old,he⟩,h1⟩ k=>⟨⟨old,k e (by simp) _ he⟩,h1.at fun o q=>k it (by simp) o q⟩
 item:=by
  intro X hP hw hK hc i pins s σ H E I hf st hg;subst hP hw hK;obtain⟨⟨old,he⟩,h1⟩:=st;obtain⟨xs,x,q1,hx⟩:=hg;obtain⟨its1,r1,p1,z1⟩:=I.list q1;obtain⟨u,hu,ru⟩:=r1.get hx;refine wpAny_pyNext_enum_item he h1 p1.isList (by simpa using hu) hne fun h' a1 a2 a3 a4 a5=>⟨_,rfl,?_⟩;refine wpAny_letOwnedTupleGo_enum a1 fun h'' b1 hs=>?_;have lt:∀c o,s.heap.get? c=some o->c≠s.heap.objs.size:=fun c o e=>qBk (qAy e);have lte:s.heap.objs.size≠e:=(lt e _ he).symm;have I1:Inv X pins σ H { s with heap:=h'',toks:=s.toks+1 }:=I.oJ (t':=s.toks+1) (fun c o hb e=>(hs.2 c (fun q=>hb (by simp[q]))).trans (a5 c o (fun q=>hb (by simp[q])) (fun q=>hb (by simp[q])) e)) hf;have ht:h''.get? s.heap.objs.size=some { cls:=.type "tuple",data:=.seq #[.int i s.toks,u] }:=(hs.2 _ lte).trans a3;have hn:H s.heap.objs.size=none:=I.cK.fresh (qAl _);have I2:Inv X pins σ (upd H s.heap.objs.size (.tup [.int (i:Int),x])) { s with heap:=h'',toks:=s.toks+1 }:=by
   refine I1.GH hn (qIh I.sz) (qBk I.lt).symm (fun y c q=>?_) (fun p hp=>?_) (I.HV (qAl _)) ⟨kY,[.int i s.toks,u],.cons ⟨_,rfl⟩ (.cons ru .nil),_,ht,rfl,_,rfl⟩
   .obtain⟨_,o,ho,_⟩:=I.cell y c q;exact lt c o ho
   .exact lt _ _ (I.pin p hp).1
  refine⟨.ref s.heap.objs.size,_,I2,rfl,⟨_,x,rfl,hn,rfl,fun xs' q=>?_⟩,⟨⟨u,?_⟩,a2.at fun o e=>(hs.2 _ hne.symm).trans e⟩,fun c hb=>?_⟩
  .rw[I.oX q q1];exact hx
  .rw[show((i+1:Nat):Int)=(i:Int)+1 by push_cast;rfl];exact b1
  .obtain⟨o,ho,_⟩:∃o,s.heap.get? c=some o/\True:=by
    simp only[qEe,qCs,or_false] at hb;rcases hb with rfl | rfl
    .exact⟨_,he,trivial⟩
    .obtain⟨o,ho,_⟩:=h1;exact⟨o,ho,trivial⟩
   rw[aQ (lt c o ho)];exact(hf c hb).1
 done:=by
  intro X hP hw hK hc i pins s σ H E I hf st hg;subst hP hw hK;obtain⟨⟨old,he⟩,h1⟩:=st;obtain⟨xs,q1,hend⟩:=hg;obtain⟨its1,r1,p1,z1⟩:=I.list q1;have e1:=r1.length;exact wpAny_pyNext_enum_end (I.ok.hd hc) he h1 p1.isList (by simp;lia) fun h' k=>⟨rfl,I.oJ (t':=s.toks) (fun c o hb e=>k c o (fun q=>hb (by simp[q])) e) hf⟩
 self:=fun _ _ _ _ _ ⟨⟨_,he⟩,_⟩ h=>qHq he h
def Nf(K:qAb)(ta:TA):TI:=fun σ H R=>ta σ H fun vs H1=>∃l,vs=[.ref l]/\(∃xs,aV K H1 l xs)/\R (CU K l) H1
theorem z7:qCx "enumerate"=some (.type "enumerate"):=by decide +kernel
theorem oK{X:Cx}{elts:List Expr}{x1}{tpos:Pos}{a:Expr}{ta:TA}{p pos:Pos}(hg:Gl X "enumerate")(hm:X.mg "enumerate"=none)(ha:PA X [a] ta)(hs:qBx [a] X.env=[(false,eval a X.env)]:=by rfl):
  PI X (.Tuple elts x1 tpos) (.Call (.Name "enumerate" p) [a] [] pos) (Nf X.K ta):=by
 intro pins s σ H R I h;refine Call_ (jK I hg hm z7 (qEs (cA (ha pos pins s σ H _ I h) fun us s1 z9=>?_) hs rfl));obtain⟨vs,H1,I1,r1,q1⟩:=z9;obtain⟨l,e,⟨xs,q1⟩,q⟩:=q1;subst e;obtain⟨u,rfl,ru⟩:=vals1 r1;cases (show u=Value.ref l from ru);obtain⟨its1,r1,p1,z1⟩:=I1.list q1;refine call_enumerate_list p1.isList fun h' hE hI hsz hk=>?_;refine qHq hE ?_;have I2:Inv X pins σ H1 { s1 with heap:=h' }:=I1.kept (t':=s1.toks) hk;refine⟨_,[s1.heap.objs.size+1,s1.heap.objs.size],_,_,H1,rfl,I2,AY (qMt _),⟨⟨_,hE⟩,hI⟩,fun c hc=>?_,q⟩;have hge:s1.heap.objs.size<=c:=by
  simp only[qEe,qCs,or_false] at hc;rcases hc with h | h
  all_goals first | (rw[h];exact qHm _ _) | exact qJj h.symm
 have:=I1.qP (H':=H1) hge (I1.cK.fresh hge);exact this
theorem CV{K:qAb}{l:Addr}{xs:List V}{g:TG}{tb:TS}{D:Ends}{σ:St}{H:Hp}(Pv:Nat->St->Hp->Prop)(h0:Pv 0 σ H)(hl:∀i σ H,i<=xs.length->Pv i σ H->aV K H l xs)
  (hs:∀i x t σ H,xs[i]?=some x->H t=none->Pv i σ H->g (.ref t) σ (upd H t (.tup [.int (i:Int),x])) fun σ2 H2=>tb { D with nx:=Pv (i+1),ct:=Pv (i+1),bk:=D.nx } σ2 H2) (hd:∀σ H,Pv xs.length σ H->D.nx σ H) :
  ∃W:Nat->Nat->St->Hp->Prop,(∃m,W 0 m σ H)/\∀i m σ H,W i m σ H ->
   ((CU K l).stop i H/\D.nx σ H)\/((CU K l).go i H/\∃N:St->Hp->Prop,(∀σ' H',N σ' H'->∃m',m'<m/\W (i+1) m' σ' H')/\∀x H',(CU K l).tE i H x H'->g x σ H' fun σ2 H2=>tb { D with nx:=N,ct:=N,bk:=D.nx } σ2 H2):=by
 exists fun i m σ H=>Pv i σ H/\i<=xs.length/\m=xs.length-i,⟨_,h0,qBf _,rfl⟩;rintro i m σ H ⟨hp,hi,rfl⟩;have q1:=hl i σ H hi hp;rcases qBj i xs.length with hlt | hge
 .right
  obtain⟨x,hx⟩:∃x,xs[i]?=some x:=⟨_,qAc hlt⟩;refine⟨⟨xs,x,q1,hx⟩,Pv (i+1),fun σ' H' h=>⟨_,qLz hlt (qFi _),h,hlt,rfl⟩,?_⟩;rintro v H' ⟨t,x',rfl,hn,rfl,e1⟩;have e1':=e1 xs q1;rw[hx] at e1';cases e1';exact hs i x t σ H hx hn hp
 .left
  obtain rfl:i=xs.length:=qDe hi hge;exact⟨⟨xs,q1,qAl _⟩,hd σ H hp⟩
section
variable {K:qAb}{a a':Addr}{xs ys:List V}{σ0:St}{H1:Hp}{g:TG}{c:TT}{te:TE}{Q:Addr->Hp->Prop}
theorem pF(Ag:St->Prop)(f:Nat->V->Option V)(h0:Ag σ0)(hq:aV K H1 a xs)(hn:xs.length<=qAg)
  (step:∀(i:Nat) (x:V) (t:Addr) (σ1:St) (H2:Hp) (k:St->VK) (k0:St->Hp->Prop),Ag σ1->aJ H1 H2->xs[i]?=some x->H2 t=some (.tup [.int (i:Int),x])->(∀σ2 y,Ag σ2->f i x=some y->∀H3,aJ H2 H3->k σ2 y H3)->(∀σ2,Ag σ2->f i x=none->∀H3,aJ H2 H3->k0 σ2 H3) ->
   g (.ref t) σ1 H2 fun σ2 H3=>c σ2 H3 fun b H4=>if b=true then te σ2 H4 (k σ2) else k0 σ2 H4)
  (h:∀D H2,H1 D=none->aJ H1 H2->H2 D=some (.lst ((qAh xs.length).filterMap fun i=>(xs[i]?).bind (f i)))->Q D H2) :
  ∀D,H1 D=none->∃W:Nat->Nat->St->Hp->Prop,(∃m,W 0 m σ0 (upd H1 D (.lst [])))/\∀i m σ1 H2,W i m σ1 H2 ->
   ((CU K a).stop i H2/\Q D H2)\/((CU K a).go i H2/\∃N:St->Hp->Prop,(∀σ' H',N σ' H'->∃m',m'<m/\W (i+1) m' σ' H') /\
    ∀x H',(CU K a).tE i H2 x H'->g x σ1 H' fun σ2 H3=>c σ2 H3 fun b H4=>if b=true then te σ2 H4 fun y H5=>∃xs,H5 D=some (.lst xs)/\xs.length<qAg/\N σ2 (upd H5 D (.lst (xs++[y]))) else N σ2 H4):=by
 intro D hD;exists fun i m σ1 H2=>Ag σ1/\aJ H1 H2/\H2 D=some (.lst ((qAh i).filterMap fun i=>(xs[i]?).bind (f i)))/\i<=xs.length/\m=xs.length-i,⟨xs.length,h0,.aI hD,aC,qBf _,rfl⟩;rintro i m σ1 H2 ⟨hσ,hs,hd,hi,rfl⟩;rcases qBj i xs.length with hlt | hge
 .right
  refine⟨⟨xs,xs[i],hs.seq hq,by simp[hlt]⟩,fun σ' H'=>Ag σ'/\aJ H1 H'/\H' D=some (.lst ((qAh (i+1)).filterMap fun i=>(xs[i]?).bind (f i))),(by rintro σ' H' ⟨a,b,c⟩;exact ⟨xs.length-(i+1),by lia,a,b,c,hlt,rfl⟩),?_⟩;rintro v H' ⟨t,x,rfl,ht,rfl,hx⟩;have hx:=hx xs (hs.seq hq);have hst:aJ H1 (upd H2 t (.tup [.int (i:Int),x])):=hs.trans (.aI ht);have hdt:=aJ.aI (o:=.tup [.int (i:Int),x]) ht _ _ hd;refine step i x t σ1 _ (fun σ2 y H5=>∃xs,H5 D=some (.lst xs)/\xs.length<qAg/\_) _ hσ hst hx aC (fun σ2 y a2 hy H3 hs3=>⟨_,hs3 _ _ hdt,?_,a2,?_,?_⟩) fun σ2 a2 hno H3 hs3=>⟨a2,hst.trans hs3,?_⟩
  .refine qBi (qCy _ _) ?_;rw[qBg];lia
  .exact(hst.trans hs3).upd_ne' hD
  .rw[aC,qCt,qBy];simp[hx,hy]
  .rw[hs3 _ _ hdt,qCt,qBy];simp[hx,hno]
 .left
  obtain rfl:i=xs.length:=qDe hi hge;exact⟨⟨xs,hs.seq hq,qAl _⟩,h D _ hD hs hd⟩
end
section
variable {X:Cx}
theorem CW(K:qAb){tg l:Expr}{tl:TE}(hl:PE X l tl)(h:X.K=K:=by rfl):PI X tg l (GC K tl):=by
 subst h;exact bM hl
end
section
variable {K:qAb}{a:Addr}{xs:List V}{lo:Int}{n:Nat}{σ0:St}{H1:Hp}{i0:Nat}{c:TT}{te:TE}{Q:Addr->Hp->Prop}
def eO(H H':Hp):Prop:=∀b xs,H b=some (.tup xs)->H' b=some (.tup xs)
theorem aJ.t(s:aJ H H'):eO H H':=fun _ _ e=>s _ _ e
theorem eO.lst(h:H D=some (.lst ys)):eO H (upd H D o):=fun b xs e=>by
 rw[aQ fun q=>by subst q;rw[h] at e;cases e];exact e
theorem AZ(R:Nat->V->Hp->Prop)(mono:∀i y H H',eO H H'->R i y H->R i y H')(hn:n<=qAg)
  (step:∀(i:Nat) (H2:Hp) (k:VK) (k0:Hp->Prop),aJ H1 H2->i<n->(∀y H3,aJ H2 H3->R i y H3->k y H3) ->
   c (σ0.set i0 (some (.int (lo+(i:Int))))) H2 fun b H4=>if b=true then te (σ0.set i0 (some (.int (lo+(i:Int))))) H4 k else k0 H4)
  (h:∀D ys H2,H1 D=none->aJ H1 H2->ys.length=n->(∀i y,ys[i]?=some y->R i y H2)->H2 D=some (.lst ys)->Q D H2) :
  ∀D,H1 D=none->∃W:Nat->Nat->St->Hp->Prop,(∃m,W 0 m σ0 (upd H1 D (.lst [])))/\∀i m σ1 H2,W i m σ1 H2 ->
   ((xR lo n).stop i H2/\Q D H2)\/((xR lo n).go i H2/\∃N:St->Hp->Prop,(∀σ' H',N σ' H'->∃m',m'<m/\W (i+1) m' σ' H') /\
    ∀x H',(xR lo n).tE i H2 x H'->bC i0 x σ1 H' fun σ2 H3=>c σ2 H3 fun b H4=>if b=true then te σ2 H4 fun y H5=>∃xs,H5 D=some (.lst xs)/\xs.length<qAg/\N σ2 (upd H5 D (.lst (xs++[y]))) else N σ2 H4):=by
 intro D hD;refine⟨fun i m σ1 H2=>σ1.set i0 none=σ0.set i0 none/\aJ H1 H2/\(∃ys,ys.length=i/\(∀j y,ys[j]?=some y->R j y H2)/\H2 D=some (.lst ys))/\i<=n/\m=n-i,⟨n,rfl,.aI hD,⟨[],rfl,fun j y e=>(by cases e),aC⟩,qBf _,rfl⟩,?_⟩;rintro i m σ1 H2 ⟨hσ,hs,⟨ys,hy,hR,hd⟩,hi,rfl⟩;have hset:∀v:Option V,σ1.set i0 v=σ0.set i0 v:=fun v=>by
  have z:=congrArg (fun l=>qIc l i0 v) hσ;simpa using z
 rcases qBj i n with hlt | hge
 .right
  refine⟨hlt,fun σ' H'=>σ'.set i0 none=σ0.set i0 none/\aJ H1 H'/\∃ys,ys.length=i+1/\(∀j y,ys[j]?=some y->R j y H')/\H' D=some (.lst ys),(by rintro σ' H' ⟨a,b,c⟩;exact ⟨n-(i+1),by lia,a,b,c,hlt,rfl⟩),?_⟩;rintro x H' ⟨rfl,rfl⟩;show c (σ1.set i0 (some (.int (lo+(i:Int))))) _ _;rw[hset];refine step i _ _ _ hs hlt fun y H3 hs3 hR3=>⟨_,hs3 _ _ hd,by lia,?_,(hs.trans hs3).upd_ne' hD,ys++[y],by rw[qAo];show _+1=_;lia,fun j z e=>?_,aC⟩
  .simp
  .have keep:∀{j z},R j z H3->R j z (upd H3 D (.lst (ys++[y]))):=fun {j z} q=>mono _ _ _ _ (.lst (hs3 _ _ hd)) q;rcases qBj j ys.length with z1 | z1
   .rw[qBu z1] at e;exact keep (mono _ _ _ _ hs3.t (hR j z e))
   .rw[qCd z1] at e;obtain⟨rfl,rfl⟩:j=i/\y=z:=by
     rcases qDt (j-ys.length) with q | q
     .rw[q] at e;exact⟨by lia,Option.some.inj e⟩
     .rw[qCu (by show 1<=_;lia)] at e;cases e
    exact keep hR3
 .left
  obtain rfl:i=n:=qDe hi hge;exact⟨qAl _,h D ys _ hD hs hy hR hd⟩
theorem rX(R:Nat->V->Hp->Prop)(mono:∀i y H H',eO H H'->R i y H->R i y H')(hq:aV K H1 a xs)(hn:xs.length<=qAg)
  (step:∀(i:Nat) (x:V) (H2:Hp) (k:VK) (k0:Hp->Prop),aJ H1 H2->xs[i]?=some x->(∀y H3,aJ H2 H3->R i y H3->k y H3) ->
   c (σ0.set i0 (some x)) H2 fun b H4=>if b=true then te (σ0.set i0 (some x)) H4 k else k0 H4)
  (h:∀D ys H2,H1 D=none->aJ H1 H2->ys.length=xs.length->(∀i y,ys[i]?=some y->R i y H2)->H2 D=some (.lst ys)->Q D H2) :
  ∀D,H1 D=none->∃W:Nat->Nat->St->Hp->Prop,(∃m,W 0 m σ0 (upd H1 D (.lst [])))/\∀i m σ1 H2,W i m σ1 H2 ->
   ((uP K a).stop i H2/\Q D H2)\/((uP K a).go i H2/\∃N:St->Hp->Prop,(∀σ' H',N σ' H'->∃m',m'<m/\W (i+1) m' σ' H') /\
    ∀x H',(uP K a).tE i H2 x H'->bC i0 x σ1 H' fun σ2 H3=>c σ2 H3 fun b H4=>if b=true then te σ2 H4 fun y H5=>∃xs,H5 D=some (.lst xs)/\xs.length<qAg/\N σ2 (upd H5 D (.lst (xs++[y]))) else N σ2 H4):=by
 intro D hD;refine⟨fun i m σ1 H2=>σ1.set i0 none=σ0.set i0 none/\aJ H1 H2/\(∃ys,ys.length=i/\(∀j y,ys[j]?=some y->R j y H2)/\H2 D=some (.lst ys))/\i<=xs.length/\m=xs.length-i,⟨xs.length,rfl,.aI hD,⟨[],rfl,fun j y e=>(by cases e),aC⟩,qBf _,rfl⟩,?_⟩;rintro i m σ1 H2 ⟨hσ,hs,⟨ys,hy,hR,hd⟩,hi,rfl⟩;have hset:∀v:Option V,σ1.set i0 v=σ0.set i0 v:=fun v=>by
  have z:=congrArg (fun l=>qIc l i0 v) hσ;simpa using z
 rcases qBj i xs.length with hlt | hge
 .right
  refine⟨⟨xs,xs[i],hs.seq hq,by simp[hlt]⟩,fun σ' H'=>σ'.set i0 none=σ0.set i0 none/\aJ H1 H'/\∃ys,ys.length=i+1/\(∀j y,ys[j]?=some y->R j y H')/\H' D=some (.lst ys),(by rintro σ' H' ⟨a,b,c⟩;exact ⟨xs.length-(i+1),by lia,a,b,c,hlt,rfl⟩),?_⟩;rintro x H' ⟨rfl,hx⟩;have hx:=hx xs (hs.seq hq);show c (σ1.set i0 (some x)) _ _;rw[hset];refine step i x _ _ _ hs hx fun y H3 hs3 hR3=>⟨_,hs3 _ _ hd,by lia,?_,(hs.trans hs3).upd_ne' hD,ys++[y],by rw[qAo];show _+1=_;lia,fun j z e=>?_,aC⟩
  .simp
  .have keep:∀{j z},R j z H3->R j z (upd H3 D (.lst (ys++[y]))):=fun {j z} q=>mono _ _ _ _ (.lst (hs3 _ _ hd)) q;rcases qBj j ys.length with z1 | z1
   .rw[qBu z1] at e;exact keep (mono _ _ _ _ hs3.t (hR j z e))
   .rw[qCd z1] at e;obtain⟨rfl,rfl⟩:j=i/\y=z:=by
     rcases qDt (j-ys.length) with q | q
     .rw[q] at e;exact⟨by lia,Option.some.inj e⟩
     .rw[qCu (by show 1<=_;lia)] at e;cases e
    exact keep hR3
 .left
  obtain rfl:i=xs.length:=qDe hi hge;exact⟨⟨xs,hs.seq hq,qAl _⟩,h D ys _ hD hs hy hR hd⟩
end
section
variable {X:Cx}{tg:Expr}
end
section
variable {X:Cx}{e c:Expr}{te:TE}{ts:TO}{pos p2:Pos}
end
def g9(h:Heap)(vs:List qAi):Heap:=((h.push (qDq "list" #[] 0)).update h.objs.size (Obj.mapSeq (· ++ vs.toArray))).push (qDq "list" vs.toArray 0)
section
variable {X:Cx}
end
section
variable {X:Cx}
mutual
inductive jQ (K:qAb) (H:Hp):V->qGr->Prop
 | int (i:Int):jQ K H (.int i) (.int i)
 | non:jQ K H .non .none
 | bl (b:Bool):jQ K H (.bl b) (.bool b)
 | str (x:Str):PyData.strOk x=true->jQ K H (.str x) (.str x)
 | lst {p:Addr}{xs:List V}{ds:List qGr}:aV K H p xs->cL K H xs ds->jQ K H (.ref p) (.list ds)
 | tup {p:Addr}{xs:List V}{ds:List qGr}:cQ K H p xs->cL K H xs ds->jQ K H (.ref p) (.tuple ds)
inductive cL (K:qAb) (H:Hp):List V->List qGr->Prop
 | nil:cL K H [] []
 | cons {x:V}{d:qGr}{xs:List V}{ds:List qGr}:jQ K H x d->cL K H xs ds->cL K H (x::xs) (d::ds)
end
mutual
theorem jQ.reads(I:Inv X pins σ H s):∀{v:V}{d:qGr}{u:qAi},jQ X.K H v d->RelV v u->∃as,Reads s.heap u d as
 | _,_,u,.int i,r=>by obtain⟨t,rfl⟩:=(show ∃t,u=Value.int i t from r);exact⟨_,.int i t⟩
 | _,_,u,.non,r=>by obtain rfl:u=Value.none:=r;exact⟨_,.none⟩
 | _,_,u,.bl b,r=>by obtain rfl:u=Value.bool b:=r;exact⟨_,.bool b⟩
 | _,_,u,.str x _,r=>by obtain⟨t,rfl⟩:=(show ∃t,u=Value.str x t from r);exact⟨_,.str x t⟩
 | _,_,u,.lst (p:=p) hq ha,r=>by
  obtain rfl:u = .ref p:=r;obtain⟨its,r',pl,hz⟩:=I.list hq;obtain⟨o,ho,hc,n,hd⟩:=pl.isList;obtain⟨as,z⟩:=cL.reads I ha r';exact⟨_,.list ho hc hd (by simpa using z)⟩
 | _,_,u,.tup (p:=p) hq ha,r=>by
  obtain rfl:u = .ref p:=r;obtain⟨its,r',pl,hz⟩:=I.tuple hq;obtain⟨o,ho,hc,n,hd⟩:=pl;obtain⟨as,z⟩:=cL.reads I ha r';exact⟨_,.tuple ho hc hd (by simpa using z)⟩
theorem cL.reads(I:Inv X pins σ H s):∀{vs:List V}{ds:List qGr}{us:List qAi},cL X.K H vs ds->Vals vs us->∃as,ReadsAll s.heap us ds as
 | _,_,_,.nil,.nil=>⟨_,.nil⟩
 | _,_,_,.cons h t,.cons r rs=>by
  obtain⟨a1,z1⟩:=jQ.reads I h r;obtain⟨a2,z2⟩:=cL.reads I t rs;exact⟨_,.cons z1 z2⟩
end
mutual
theorem jQ.lay{K:qAb}{H:Hp}:∀{v:V}{d:qGr},jQ K H v d->d.canLay0=true/\PyData.eqv d d=true
 | _,_,.int i=>⟨rfl,by simp[PyData.eqv]⟩
 | _,_,.non=>⟨rfl,by simp[PyData.eqv]⟩
 | _,_,.bl b=>⟨rfl,by simp[PyData.eqv]⟩
 | _,_,.str x h=>⟨h,by simp[PyData.eqv]⟩
 | _,_,.lst _ h=>by
  obtain⟨a,b⟩:=cL.lay h;exact⟨by simpa [PyData.canLay0] using a,by simpa [PyData.eqv] using b⟩
 | _,_,.tup _ h=>by
  obtain⟨a,b⟩:=cL.lay h;exact⟨by simpa [PyData.canLay0] using a,by simpa [PyData.eqv] using b⟩
theorem cL.lay{K:qAb}{H:Hp}:∀{vs:List V}{ds:List qGr},cL K H vs ds->PyData.canLayAll0 ds=true/\PyData.eqvAll ds ds=true
 | _,_,.nil=>⟨rfl,rfl⟩
 | _,_,.cons h t=>by
  obtain⟨a,b⟩:=jQ.lay h;obtain⟨c,d⟩:=cL.lay t;exact⟨by simp[PyData.canLayAll0,a,c],by simp[PyData.eqvAll,b,d]⟩
end
mutual
theorem jQ.same{K:qAb}{H H':Hp}(s:aJ H H'):∀{v:V}{d:qGr},jQ K H v d->jQ K H' v d
 | _,_,.int i=>.int i
 | _,_,.non=>.non
 | _,_,.bl b=>.bl b
 | _,_,.str x h=>.str x h
 | _,_,.lst q h=>.lst (s.seq q) (cL.same s h)
 | _,_,.tup q h=>.tup (s.Py q) (cL.same s h)
theorem cL.same{K:qAb}{H H':Hp}(s:aJ H H'):∀{vs:List V}{ds:List qGr},cL K H vs ds->cL K H' vs ds
 | _,_,.nil=>.nil
 | _,_,.cons h t=>.cons (jQ.same s h) (cL.same s t)
end
end
section
variable {X:Cx}
end
section
variable {X:Cx}
variable {o e:Expr}{es:List Expr}{to:TE}{t:TA}{name:Str}{apos cpos:Pos}{T id:String}{r:V->List V->Hp->VK->Prop}
end
section
variable {A:qDf}{prog:qBl}{w:qCr}{E:qAi->qAp->Prop}
end
section
variable {X:Cx}{pos:Pos}
end
section
variable {κ:Type} [DecidableEq κ]
def cM(kvs:List (κ×V))(k:κ):Option V:=(kvs.find? fun kv=>decide (kv.1=k)).map (·.2)
def putK(kvs:List (κ×V))(k:κ)(v:V):List (κ×V) :=
 if (kvs.any fun kv=>decide (kv.1=k))=true then kvs.map (fun kv=>if kv.1=k then (kv.1,v) else kv) else kvs++[(k,v)]
theorem dQ{p:κ×V}{r:List (κ×V)}{k:κ}(e:p.1=k):cM (p::r) k=some p.2:=by simp[cM,qFp,e]
theorem dR{p:κ×V}{r:List (κ×V)}{k:κ}(e:¬p.1=k):cM (p::r) k=cM r k:=by simp[cM,qFp,e]
theorem jR(k:κ):∀kvs:List (κ×V),(kvs.any fun kv=>decide (kv.1=k))=(cM kvs k).isSome
 | []=>rfl
 | p::r=>by
  rw[qFq];by_cases e:p.1=k
  .simp only[dQ e,decide_eq_true e,Bool.true_or,qLl]
  .rw[dR e,decide_eq_false e,qNm];exact jR k r
theorem vP(k j:κ)(y:V):∀kvs:List (κ×V),cM (kvs.map fun kv=>if kv.1=k then (kv.1,y) else kv) j=(cM kvs j).map fun x=>if j=k then y else x
 | []=>rfl
 | p::r=>by
  have ih:=vP k j y r;rw[qBa];by_cases h:p.1=k
  .rw[if_pos h];by_cases e:p.1=j
   .rw[dQ (p:=(p.1,y)) e,dQ e,qGh,if_pos (e.symm.trans h)]
   .rw[dR (p:=(p.1,y)) e,dR e,ih]
  .rw[if_neg h];by_cases e:p.1=j
   .rw[dQ (p:=p) e,dQ e,qGh,if_neg (fun z=>h (e.trans z))]
   .rw[dR (p:=p) e,dR e,ih]
theorem rY(k j:κ)(y:V):∀kvs:List (κ×V),cM kvs k=none->cM (kvs++[(k,y)]) j=if j=k then some y else cM kvs j
 | [],_=>by
  by_cases e:k=j
  .rw[if_pos e.symm];exact dQ (p:=(k,y)) e
  .rw[if_neg (fun z=>e z.symm)];exact dR (p:=(k,y)) e
 | p::r,hn=>by
  rw[qMr];have hk:¬p.1=k:=fun z=>by rw[dQ z] at hn;cases hn
  rw[dR hk] at hn;have ih:=rY k j y r hn;by_cases e:p.1=j
  .rw[dQ e,dQ e,if_neg (fun z=>hk (e.trans z))]
  .rw[dR e,dR e,ih]
theorem vQ(kvs:List (κ×V))(k j:κ)(y:V):cM (putK kvs k y) j=if j=k then some y else cM kvs j:=by
 delta putK;by_cases a:(kvs.any fun kv=>decide (kv.1=k))=true
 .rw[if_pos a,vP];rw[jR] at a;by_cases e:j=k
  .obtain⟨x,hx⟩:=Option.isSome_iff_exists.mp a;rw[if_pos e,e,hx,qGh,if_pos rfl]
  .rw[if_neg e];cases cM kvs j with
   | none=>rfl
   | some x=>rw[qGh,if_neg e]
 .rw[if_neg a];refine rY k j y kvs ?_;rw[jR] at a;cases q:cM kvs k with
  | none=>rfl
  | some x=>rw[q] at a;exact(a rfl).elim
theorem jS(kvs:List (κ×V))(k:κ)(v:V):(putK kvs k v).length<=kvs.length+1:=by
 delta putK;split
 .rw[qAa];lia
 .rw[qAo,qAw,qHx];lia
theorem pG{kvs:List (κ×V)}{k:κ}(v:V)(h:cM kvs k=none):putK kvs k v=kvs++[(k,v)]:=by
 delta putK;rw[jR,h];exact if_neg #[1]
theorem kB.iQ(r:kB o u):o.isSome=u.isSome:=by
 cases o with
 | none=>cases u with
  | none=>rfl
  | some _=>exact(show False from r).elim
 | some _=>cases u with
  | none=>exact(show False from r).elim
  | some _=>rfl
theorem KV.val{kvs:List (κ×V)}{vs:List (κ×qAi)}(r:KV kvs vs)(k:κ):kB (cM kvs k) (qKz vs k):=by
 delta KV at r;induction r with
 | nil=>exact True.intro
 | @cons p q ps qs h t ih =>
  obtain⟨h1,h2⟩:=h;by_cases e:p.1=k
  .have e':q.1=k:=h1.symm.trans e;have b:qKz (q::qs) k=some q.2:=by simp[qKz,qFp,e']
   rw[dQ e,b];exact h2
  .have e':¬q.1=k:=fun z=>e (h1.trans z);have b:qKz (q::qs) k=qKz qs k:=by simp[qKz,qFp,e']
   rw[dR e,b];exact ih
theorem KV.any(r:KV kvs vs)(k:κ):(kvs.any fun kv=>decide (kv.1=k))=vs.any fun kv=>decide (kv.1=k):=by
 delta KV at r;induction r with
 | nil=>rfl
 | cons h t ih=>rw[qFq,qFq,ih,h.1]
theorem KV.IJ(r:KV kvs vs)(k:κ){y:V}{u:qAi}(ry:RelV y u):
  KV (kvs.map fun kv=>if kv.1=k then (kv.1,y) else kv) (vs.map fun kv=>if kv.1=k then (kv.1,u) else kv):=by
 delta KV at r|-;induction r with
 | nil=>exact .nil
 | @cons p q ps qs h t ih =>
  rw[qBa,qBa];refine .cons ?_ ih;obtain⟨h1,h2⟩:=h;by_cases e:p.1=k
  .rw[if_pos e,if_pos (h1.symm.trans e)];exact⟨h1,ry⟩
  .rw[if_neg e,if_neg (fun z=>e (h1.trans z))];exact⟨h1,h2⟩
theorem KV.put(r:KV kvs vs)(k:κ){y:V}{u:qAi}(ry:RelV y u):KV (putK kvs k y) (stored vs k u):=by
 delta putK stored;rw[r.any k];by_cases e:(vs.any fun kv=>decide (kv.1=k))=true
 .rw[if_pos e,if_pos e];exact r.IJ k ry
 .rw[if_neg e,if_neg e];exact Paired.snoc r ⟨rfl,ry⟩
theorem KV.length(r:KV kvs vs):kvs.length=vs.length:=Paired.length r
end
theorem vR(r:RelV (kV k) u):(dB P w).is k u=true:=by
 cases k with
 | inl i=>obtain⟨t,e⟩:=(show ∃t,u=Value.int i t from r);subst e;exact uU P w i t
 | inr x=>obtain⟨t,e⟩:=(show ∃t,u=Value.str x t from r);subst e;exact uV P w x t
theorem rZ:∀{ks:List Key}{us:List qAi},Vals (ks.map kV) us->ItemsAre (dB P w) ks us
 | [],_,r=>by rw[qEn] at r;cases r;exact .nil
 | k::ks,_,r=>by
  rw[qBa] at r;cases r with
  | cons h t=>exact .cons (vR h) (rZ t)
abbrev KT(H:Hp):List (List Key×V)->List (List Key×Addr×qAi)->Prop:=Paired fun p q=>p.1=q.1/\H q.2.1=some (.tup (p.1.map kV))/\RelV p.2 q.2.2
theorem KT.val{H:Hp}{kvs:List (List Key×V)}{xs:List (List Key×Addr×qAi)}(r:KT H kvs xs)(k:List Key):kB (cM kvs k) ((qNf xs k).map (·.2)):=by
 induction r with
 | nil=>exact True.intro
 | @cons p q ps qs h t ih =>
  obtain⟨h1,_,h2⟩:=h;by_cases e:p.1=k
  .have e':q.1=k:=h1.symm.trans e;have b:qNf (q::qs) k=some q.2:=by simp[qNf,qFp,e']
   rw[dQ e,b];exact h2
  .have e':¬q.1=k:=fun z=>e (h1.trans z);have b:qNf (q::qs) k=qNf qs k:=by simp[qNf,qFp,e']
   rw[dR e,b];exact ih
theorem KT.IJ(r:KT H kvs xs)(k:List Key){y:V}{u:qAi}(ry:RelV y u):
  KT H (kvs.map fun kv=>if kv.1=k then (kv.1,y) else kv) (xs.map (putAt k u)):=by
 induction r with
 | nil=>exact .nil
 | @cons p q ps qs h t ih =>
  rw[qBa,qBa];refine .cons ?_ ih;obtain⟨h1,h2,h3⟩:=h;delta putAt;by_cases e:p.1=k
  .rw[if_pos e,if_pos (h1.symm.trans e)];exact⟨h1,h2,ry⟩
  .rw[if_neg e,if_neg (fun z=>e (h1.trans z))];exact⟨h1,h2,h3⟩
theorem KT.put(r:KT H kvs xs)(k:List Key){b:Addr}{y:V}{u:qAi}(hb:H b=some (.tup (k.map kV)))(ry:RelV y u):
  KT H (putK kvs k y) (storedH xs k b u):=by
 have e:(kvs.any fun kv=>decide (kv.1=k))=(qNf xs k).isSome:=by
  rw[jR,(r.val k).iQ,qIt]
 delta putK storedH;rw[e];by_cases q:(qNf xs k).isSome=true
 .rw[if_pos q,if_pos q];exact r.IJ k ry
 .rw[if_neg q,if_neg q];exact Paired.snoc r ⟨rfl,hb,ry⟩
theorem KT.keeps(r:KT H kvs xs)(ht:∀b ys,H b=some (.tup ys)->H' b=some (.tup ys)):KT H' kvs xs :=
 Paired.HU r fun _ _ z=>⟨z.1,ht _ _ z.2.1,z.2.2⟩
section
variable {P:qBl}{w:qCr}{H:Hp}{h:Heap}{a:Addr}
theorem GL(ok:kG P w H h)(e:Rd H a u):dO P w H h a u:=e.ok ok
theorem vS(ok:kG P w H h)(e:Rd H a (.dK kvs)):kvs.length<=qAg/\(a == qFg)=false/\∃vs,KV kvs vs/\h.DictOf (dB P w) a vs :=
 show dO P w H h a (.dK kvs) from GL ok e
theorem Ng(ok:kG P w H h)(e:H a=some (.dK kvs)):kvs.length<=qAg/\(a == qFg)=false/\∃vs,KV kvs vs/\h.DictOf (dB P w) a vs:=vS ok (.inl e)
theorem mR(ok:kG P w H h)(e:H a=some (.tup (ks.map kV))):(qGx (dB P w)).is h ks a:=by
 obtain⟨_,its,r,o,h1,h2,n,h3⟩:=(show dO P w H h a (.tup (ks.map kV)) from ok a _ e);exact⟨o,its.toArray,n,h1,h2,h3,by simpa using rZ r⟩
theorem r8(ok:kG P w H h)(e:Rd H a (.dT kvs)):kvs.length<=qAg/\(a == qFg)=false /\
  ∃xs,KT H kvs xs/\h.DictOfH (qGx (dB P w)) a xs:=by
 obtain⟨z,y,xs,r,o,es,ep,h1,h2,h3,h4,h5⟩:=(show dO P w H h a (.dT kvs) from GL ok e);refine⟨z,y,xs,r,o,es,ep,h1,h2,h3,h4,fun x hx=>?_,h5⟩;have all:∀{l:List (List Key×V)}{m:List (List Key×Addr×qAi)},KT H l m->∀x∈m,(qGx (dB P w)).is h x.1 x.2.1:=by
  intro l m q;induction q with
  | nil=>intro x hx;exact nomatch hx
  | @cons p q ps qs hq t ih =>
   intro x hx;rcases List.mem_cons.mp hx with e | hx
   .subst e;exact mR ok (by rw[<- hq.1];exact hq.2.1)
   .exact ih x hx
 exact all r x hx
theorem CY(ok:kG P w H h)(e:H a=some (.dT kvs)):kvs.length<=qAg/\(a == qFg)=false /\
  ∃xs,KT H kvs xs/\h.DictOfH (qGx (dB P w)) a xs:=r8 ok (.inl e)
end
def kR(H:Hp)(a:Addr)(y:V)(r:Option V):Prop :=
 (∃kvs k,Rd H a (.dK kvs)/\y=kV k/\r=cM kvs k)\/∃kvs k b,Rd H a (.dT kvs)/\y = .ref b/\H b=some (.tup (k.map kV))/\r=cM kvs k
def qU(H:Hp)(a:Addr)(y v:V)(H':Hp):Prop :=
 (∃kvs k,H a=some (.dK kvs)/\y=kV k/\kvs.length<qAg/\H'=upd H a (.dK (putK kvs k v))) \/
 ∃kvs k b,H a=some (.dT kvs)/\y = .ref b/\H b=some (.tup (k.map kV))/\kvs.length<qAg/\H'=upd H a (.dT (putK kvs k v))
theorem kR.t{H:Hp}{a b:Addr}{kvs:List (List Key×V)}{k:List Key}(e:H a=some (.dT kvs))(eb:H b=some (.tup (k.map kV))):kR H a (.ref b) (cM kvs k):=.inr ⟨kvs,k,b,.inl e,rfl,eb,rfl⟩
theorem qU.t{H:Hp}{a b:Addr}{kvs:List (List Key×V)}{k:List Key}{v:V}(e:H a=some (.dT kvs))(eb:H b=some (.tup (k.map kV)))(hl:kvs.length<qAg):
  qU H a (.ref b) v (upd H a (.dT (putK kvs k v))):=.inr ⟨kvs,k,b,e,rfl,eb,hl,rfl⟩
section
variable {X:Cx}{pins:List (Addr×Obj)}{σ:St}{H:Hp}{s:qAp}{a:Addr}{y v:V}{u r:qAi}{o:Option V}{A:qDf}{E:qAi->qAp->Prop}
theorem Ba(hu:A.units+1<qIe)(I:Inv X pins σ H s)(g:kR H a y (some v))(ry:RelV y u)(h:∀w' s',Inv X pins σ H s'->RelV v w'->Q w' s'):
  qBs (qCb X.prog X.w) A (qId (.ref a) u) Q E s:=by
 rcases g with ⟨kvs,k,e,ey,l⟩ | ⟨kvs,k,b,e,ey,eb,l⟩
 .subst ey;obtain⟨z,hd,vs,rel,dd⟩:=vS I.cK e;obtain⟨w',hw,rw'⟩:=kB.some_of (v:=v) (o:=qKz vs k) (by rw[l];exact rel.val k);exact wpAny_getItem_of (vR ry) dd.mapOf hw (h w' _ (I.tok _) rw')
 .subst ey;cases (show u=Value.ref b from ry);obtain⟨z,hd,xs,rel,dd⟩:=r8 I.cK e;obtain⟨w',hw,rw'⟩:=kB.some_of (v:=v) (o:=(qNf xs k).map (·.2)) (by rw[l];exact rel.val k);obtain⟨p,hp,hp2⟩:=Option.map_eq_some_iff.mp hw;refine wpAny_getItem_heap (qHj hu) (mR I.cK eb) dd hp ?_;rw[hp2];exact h w' _ (I.tok _) rw'
theorem Qq(hu:A.units+1<qIe)(I:Inv X pins σ H s)(g:kR H a y o)(ry:RelV y u)(h:∀s',Inv X pins σ H s'->Q (.bool o.isSome) s'):
  qBs (qCb X.prog X.w) A (qDd .In u (.ref a)) Q E s:=by
 rcases g with ⟨kvs,k,e,ey,l⟩ | ⟨kvs,k,b,e,ey,eb,l⟩
 .subst ey;obtain⟨z,hd,vs,rel,dd⟩:=vS I.cK e;refine wpAny_in_of (vR ry) hd dd.mapOf ?_;rw[<- (rel.val k).iQ,<- l];exact h _ (I.tok _)
 .subst ey;cases (show u=Value.ref b from ry);obtain⟨z,hd,xs,rel,dd⟩:=r8 I.cK e;refine wpAny_in_heap (qHj hu) (mR I.cK eb) hd dd ?_;have q:=(rel.val k).iQ;rw[qIt] at q;rw[<- q,<- l];exact h _ (I.tok _)
theorem Ff(hu:A.units+1<qIe)(I:Inv X pins σ H s)(g:kR H a y o)(ry:RelV y u)(h:∀s',Inv X pins σ H s'->Q (.bool (!o.isSome)) s'):
  qBs (qCb X.prog X.w) A (qDd .NotIn u (.ref a)) Q E s:=by
 rcases g with ⟨kvs,k,e,ey,l⟩ | ⟨kvs,k,b,e,ey,eb,l⟩
 .subst ey;obtain⟨z,hd,vs,rel,dd⟩:=vS I.cK e;refine wpAny_notIn_of (vR ry) hd dd.mapOf ?_;rw[<- (rel.val k).iQ,<- l];exact h _ (I.tok _)
 .subst ey;cases (show u=Value.ref b from ry);obtain⟨z,hd,xs,rel,dd⟩:=r8 I.cK e;refine wpAny_notIn_heap (qHj hu) (mR I.cK eb) hd dd ?_;have q:=(rel.val k).iQ;rw[qIt] at q;rw[<- q,<- l];exact h _ (I.tok _)
theorem tT(I:Inv X pins σ H s)(mu:Mu (H a))(hs:qHz a s.heap h')(he:∃q,h'.get? a=some q)(new:dO X.prog X.w (upd H a ob) h' a ob):
  Inv X pins σ (upd H a ob) { s with heap:=h',toks:=t' } :=
 I.write (x:=a) (e:=a) mu (.inl rfl) (fun b q hb z=>(hs.2 b hb).trans z) he new
theorem IK(z:kvs.length<=qAg)(hd:(a == qFg)=false)(rel:KV kvs vs)(dd:h'.DictOf (dB P w) a vs):
  dO P w H' h' a (.dK kvs):=⟨z,hd,vs,rel,dd⟩
theorem Bb(hu:A.units+1<qIe)(I:Inv X pins σ H s)(g:qU H a y v H')(ry:RelV y u)(rv:RelV v r)(h:∀s',Inv X pins σ H' s'->Q () s'):
  qBs (qCb X.prog X.w) A (setItem (.ref a) u r) Q E s:=by
 rcases g with ⟨kvs,k,e,ey,l,eH⟩ | ⟨kvs,k,b,e,ey,eb,l,eH⟩
 .subst ey eH;obtain⟨z,hd,vs,rel,dd⟩:=Ng I.cK e;have hz:vs.length<=qAg:=by rw[<- rel.length];exact z
  have hl:(putK kvs k v).length<=qAg:=by have:=jS kvs k v;lia
  refine wpAny_setItem_pairs (hsz:=hz) (vR ry) dd fun h' dd' hs=>h _ ?_;have he:∃q,h'.get? a=some q:=let ⟨q,_,_,hq,_⟩:=dd';⟨q,hq⟩;exact tT I (by rw[e];exact True.intro) hs he (IK hl hd (rel.put k rv) dd')
 .subst ey eH;cases (show u=Value.ref b from ry);obtain⟨z,hd,xs,rel,dd⟩:=CY I.cK e;have hz:xs.length<=qAg:=by rw[<- Paired.length rel];exact z
  have hl:(putK kvs k v).length<=qAg:=by have:=jS kvs k v;lia
  refine wpAny_setItem_heap (hsz:=hz) (qHj hu) (mR I.cK eb) dd fun h' dd' hs=>h _ ?_;obtain⟨q,es,ep,hq,h2,h3,h4,_,h5⟩:=dd';refine tT I (by rw[e];exact True.intro) hs ⟨q,hq⟩ ⟨hl,hd,_,(rel.put k eb rv).keeps fun c ys ec=>?_,q,es,ep,hq,h2,h3,h4,h5⟩;rw[aQ (fP ec e (fun z=>nomatch z))];exact ec
end
section
variable {X:Cx}{pins:List (Addr×Obj)}{σ:St}{H:Hp}{s:qAp}{a:Addr}{kvs:List (Key×V)}{k:Key}{u:qAi}{A:qDf}{E:qAi->qAp->Prop}
end
def Nh(i:Expr):Prop:=∀ov iv,qLa i false ov iv=operate [ov,iv] (qId ov iv)
theorem Fg{prog:qBl}{w:qCr}{A:qDf}{E:qAi->qAp->Prop}{s:qAp}{env:Env}{value slice:Expr}{pos:Pos}{T id:String}{Q:qAi->qAp->Prop}
  (hl:typeLookup (.type T) "__getitem__"=pure (some (.builtin id))) (hs:Nh slice)
  (h:qBs (qCb prog w) A (eval value env) (fun o s₁=>qBs (qCb prog w) A (eval slice env) (fun i s₂=>s₂.TypeIs o T/\qBs (qCb prog w) A (qId o i) Q E s₂) E s₁) E s) :
  qBs (qCb prog w) A (eval (.Subscript value slice pos) env) Q E s:=by
 refine Subscript_ (qFa h (fun o s₁ h₁=>qFa h₁ (fun i s₂ h₂=>?_) fun _ _ x=>x) fun _ _ x=>x);obtain⟨hT,h₂⟩:=h₂;delta subscriptTail;refine qAd ?_;rw[getitemInPython_of_ne hT.not_modules];refine qAd (wpAny_specialOf hT hl ?_);have fin:qBs (qCb prog w) A (qLa slice false o i) (fun r s₃=>qBs (qCb prog w) A (letTemporaryGo value o r >>= fun _=>pure r) Q E s₃) E s₂:=by
  rw[hs o i];exact wpAny_operating (qFa h₂ (fun r s₃ h₃=>qAd (wpAny_letTemporaryGo (qAm h₃))) fun _ _ x=>x)
 first
  | exact qAm (qAd fin)
  | exact qAd (qAm (qAd fin))
  | exact qAd fin
theorem vT(I:Inv X pins σ H s)(g:kR H a y o):s.TypeIs (.ref a) "dict":=by
 rcases g with ⟨kvs,k,e,_,_⟩ | ⟨kvs,k,b,e,_,_,_⟩
 .obtain⟨_,_,vs,_,dd⟩:=vS I.cK e;exact dd.typeIs
 .obtain⟨_,_,xs,_,dd⟩:=r8 I.cK e;exact dd.typeIs
def Ni(td ty:TE):TE:=fun σ H Q=>td σ H fun x H1=>ty σ H1 fun y H2=>∃a v,x = .ref a/\kR H2 a y (some v)/\Q v H2
def Qr(ty td:TE):TE:=fun σ H Q=>ty σ H fun y H1=>td σ H1 fun x H2=>∃a o,x = .ref a/\kR H2 a y o/\Q (.bl o.isSome) H2
def Fh(ty td:TE):TE:=fun σ H Q=>ty σ H fun y H1=>td σ H1 fun x H2=>∃a o,x = .ref a/\kR H2 a y o/\Q (.bl (!o.isSome)) H2
def Nj(td ty tv:TE):TS:=fun D σ H=>tv σ H fun v H1=>td σ H1 fun x H2=>ty σ H2 fun y H3=>∃a H4,x = .ref a/\qU H3 a y v H4/\D.nx σ H4
section
variable {X:Cx}{o i e value:Expr}{pos pos' tpos:Pos}{td ty tv:TE}
theorem j4(hu:X.A.units+1<qIe)(ho:PE X o td)(hi:PE X i ty)(hs:Nh i):PE X (.Subscript o i pos) (Ni td ty):=by
 intro pins s σ H Q I h;refine Fg PySem.F.slot_dict_getitem.lookup hs (cA (ho pins s σ H _ I h) fun u s1 ⟨x,H1,I1,rx,q1⟩=>cA (hi pins s1 σ H1 _ I1 q1) fun iv s2 z9=>?_);obtain⟨y,H2,I2,ry,a,v,ex,g,q2⟩:=z9;subst ex;obtain rfl:u=Value.ref a:=rx;exact⟨vT I2 g,Ba hu I2 g ry fun w' s3 I3 rw'=>⟨v,H2,I3,rw',q2⟩⟩
theorem IL(hu:X.A.units+1<qIe)(hi:PE X i ty)(ho:PE X o td):PC X .In i o (Qr ty td):=by
 intro pins s σ H Q I h;refine cA (hi pins s σ H _ I h) fun iv s1 ⟨y,H1,I1,ry,q1⟩=>cA (ho pins s1 σ H1 _ I1 q1) fun u s2 z9=>?_;obtain⟨x,H2,I2,rx,a,ov,ex,g,q2⟩:=z9;subst ex;obtain rfl:u=Value.ref a:=rx;exact Qq hu I2 g ry fun s3 I3=>⟨.bl ov.isSome,H2,I3,rfl,q2⟩
theorem Bc(hu:X.A.units+1<qIe)(hi:PE X i ty)(ho:PE X o td):PC X .NotIn i o (Fh ty td):=by
 intro pins s σ H Q I h;refine cA (hi pins s σ H _ I h) fun iv s1 ⟨y,H1,I1,ry,q1⟩=>cA (ho pins s1 σ H1 _ I1 q1) fun u s2 z9=>?_;obtain⟨x,H2,I2,rx,a,ov,ex,g,q2⟩:=z9;subst ex;obtain rfl:u=Value.ref a:=rx;exact Ff hu I2 g ry fun s3 I3=>⟨.bl (!ov.isSome),H2,I3,rfl,q2⟩
theorem j5(hu:X.A.units+1<qIe)(ho:PE X o td)(hi:PE X i ty)(hv:PE X value tv)(hs:qJq value (some (.Subscript o i pos')) pos.line X.env=pure false):
  PS X (.Assign [.Subscript o i pos'] value pos) (Nj td ty tv):=by
 intro pins s σ H D I h;refine wpAny_Assign_Subscript (cA (hv pins s σ H _ I h) fun r s1 ⟨v,H1,I1,rv,q1⟩=>cA (ho pins s1 σ H1 _ I1 q1) fun u s2 ⟨x,H2,I2,rx,q2⟩=>cA (hi pins s2 σ H2 _ I2 q2) fun iv s3 z9=>?_) hs;obtain⟨y,H3,I3,ry,a,H4,ex,g,q3⟩:=z9;subst ex;obtain rfl:u=Value.ref a:=rx;exact Bb hu I3 g ry rv fun s4 I4=>⟨σ,H4,I4,q3⟩
end
section
variable {κ:Type} [DecidableEq κ]
end
theorem vU(h:Heap)(hb:qFg<h.objs.size):dO P w H (h.push { cls:=.type "dict",data:=.dict #[] }) h.objs.size (.dT []) :=
 ⟨qBf _,beq_eq_false_iff_ne.mpr (Ne.symm (qBk hb)),[],.nil,_,#[],0,qAz _ rfl,⟨rfl,rfl,rfl⟩,rfl,rfl,qKj⟩
def IM:TE:=fun _ H Q=>∀p,H p=none->Q (.ref p) (upd H p (.dT []))
section
variable {X:Cx}{pos:Pos}
theorem vV:PE X (.Dict [] [] pos) IM:=fun pins s σ H Q I h =>
 wpAny_Dict_empty ⟨.ref s.heap.objs.size,_,I.laid (a:=s.heap.objs.size) (o:=.dT []) (t':=s.toks) (fun _ _ q=>qAk _ q) (qAl _) (vU s.heap I.big),rfl,h _ (I.cK.fresh (qAl _))⟩
end
end L2
namespace PySem.W
open PySem PySem.Calls PyProof.Rows
def KasT.Ok{α:Type}(n:Nat)(P:α->Prop):KasT α->Prop
 | .ret a=>P a
 | .ask i j k=>i<n/\j<n/\∀b,(k b).Ok n P
theorem KasT.Ok.bind{α β:Type}{n:Nat}{P:α->Prop}{P':β->Prop}{f:α->KasT β}:∀{t:KasT α},t.Ok n P->(∀a,P a->(f a).Ok n P')->(t.bind f).Ok n P'
 | .ret a,h,hf=>hf a h
 | .ask i j k,h,hf=>⟨h.1,h.2.1,fun b=>KasT.Ok.bind (h.2.2 b) hf⟩
def KasT.run{α:Type}(lt:Nat->Nat->Bool):KasT α->α
 | .ret a=>a
 | .ask i j k=>(k (lt i j)).run lt
theorem KasT.Ok.wp(lt:Nat->Nat->Bool)(hc:∀i j C,i<n->j<n->C (lt i j) s->cmp i j C s):
  ∀{t:KasT α},t.Ok n P->(∀a,P a->a=t.run lt->Q a s)->t.kasWp cmp Q s
 | .ret a,h,hQ=>hQ a h rfl
 | .ask i j k,h,hQ=>hc i j _ h.1 h.2.1 (KasT.Ok.wp lt hc (h.2.2 (lt i j)) hQ)
def iF(n:Nat)(p:Array Nat):Prop:=p.toList.Perm (qAh n)
theorem iF.lt(h:iF n p)(hn:0<n)(i:Nat):p.getD i 0<n:=by
 by_cases hi:i<p.size
 .have e:p.getD i 0=p[i]:=by simp[qGi,hi]
  rw[e];exact List.mem_range.mp (h.mem_iff.mp (by simp))
 .have e:p.getD i 0=0:=by simp[qGi,hi]
  rw[e];exact hn
theorem iF.rev(h:iF n p)(i j:Nat):iF n (kas_rev p i j):=(Array.perm_iff_toList_perm.mp (mirror_perm p i j ((j-i)/2))).trans h
theorem iF.RO(h:iF n p)(i j:Nat):iF n (bubble p i j):=(Array.perm_iff_toList_perm.mp (bubble_perm p i j)).trans h
theorem yQ(h:iF n p)(hn:0<n):∀f m,(kas_asc p f m).Ok n (fun _=>True)
 | 0,m=>trivial
 | f+1,m=>⟨h.lt hn _,h.lt hn _,fun b=>by
  cases b with
  | true=>exact trivial
  | false=>exact yQ h hn f (m+1)⟩
theorem oM(hn:0<n):∀f p m q,iF n p->(kas_desc f p m q).Ok n (fun r=>iF n r.1)
 | 0,p,m,q,h=>h
 | f+1,p,m,q,h=>⟨h.lt hn _,h.lt hn _,fun b=>by
  cases b with
  | true =>
   show KasT.Ok n _ (if q>0 then _ else _);split
   .exact oM hn f _ _ _ (h.rev _ _)
   .exact oM hn f _ _ _ h
  | false=>exact⟨h.lt hn _,h.lt hn _,fun d=>by
    cases d with
    | true=>exact h
    | false=>exact oM hn f _ _ _ h⟩⟩
theorem vW{n:Nat}(hn:0<n)(a m:Nat){p:Array Nat}(h:iF n p):(kas_tail3 a m p).Ok n (fun r=>iF n r.2) :=
 KasT.Ok.bind (yQ (h.rev 0 a) hn _ _) fun _ _=>h.rev 0 a
theorem nN{n:Nat}(hn:0<n)(a m:Nat){p:Array Nat}(h:iF n p):(kas_descPart a m p).Ok n (fun r=>iF n r.2) :=
 KasT.Ok.bind (oM hn _ _ _ _ h) fun r hr=>by
  show KasT.Ok n _ (if r.2.2>0 then _ else _);split
  .exact vW hn _ _ (hr.rev _ _)
  .exact vW hn _ _ hr
theorem CZ{n:Nat}(hn:0<n)(m:Nat){p:Array Nat}(h:iF n p):(kas_count m p).Ok n (fun r=>iF n r.2) :=
 KasT.Ok.bind (yQ h hn _ _) fun a _=>by
  show KasT.Ok n _ (if (a == m)=true then _ else if a>1 then _ else _);split
  .exact h
  .split
   .exact⟨h.lt hn _,h.lt hn _,fun b=>by
     cases b with
     | true=>exact h
     | false=>exact nN hn _ _ (h.rev _ _)⟩
   .exact nN hn _ _ h
theorem pH(h:iF n p)(hn:0<n)(k:Nat):∀f l r,(kas_place p k f l r).Ok n (fun _=>True)
 | 0,l,r=>trivial
 | f+1,l,r=>by
  show KasT.Ok n _ (if l≥r then _ else _);split
  .exact trivial
  .exact⟨h.lt hn _,h.lt hn _,fun b=>by
    cases b with
    | true=>exact pH h hn k f _ _
    | false=>exact pH h hn k f _ _⟩
theorem Dc{n:Nat}(hn:0<n):∀f p k,iF n p->(kas_bin f p k).Ok n (iF n)
 | 0,p,k,h=>h
 | f+1,p,k,h=>KasT.Ok.bind (pH h hn k _ _ _) fun l _=>Dc hn f _ _ (h.RO _ _)
theorem lO{n:Nat}(hn:0<n):(kas_sort n).Ok n (iF n) :=
 KasT.Ok.bind (CZ hn n (show iF n (qEm (qAh n)) from List.Perm.refl _)) fun r hr=>by
  show KasT.Ok n _ (if r.1<n then _ else _);split
  .exact Dc hn _ _ _ hr
  .exact hr
section
variable {prog:qBl}{w:qCr}{A:qDf}{E:qAi->qAp->Prop}{s:qAp}
theorem Be(h:n<2)(lt:Nat->Nat->Bool):(kas_sort n).run lt=qEm (qAh n):=by
 have c:n=0\/n=1:=by lia
 rcases c with rfl | rfl
 .rfl
 .rfl
theorem qV(ho:s.heap.get? a=some (qDq "list" vs.toArray n))(h64:vs.length<64)(lt:Nat->Nat->Bool)
  (ht:∀h',(∀b o,b≠a->s.heap.get? b=some o->h'.get? b=some o)->KatTups h' vs fs) (hT:∀v∈fs,∃i t,v=Value.int i t)
  (ask:∀h',(∀b o,b≠a->s.heap.get? b=some o->h'.get? b=some o)->∀i j C,i<vs.length->j<vs.length->C (lt i j) { s with heap:=h' }->kas_ask prog w A (tuples' true) vs i j C { s with heap:=h' })
  (h:∀p:Array Nat,iF vs.length p->p=(kas_sort vs.length).run lt->P (.done (.ret .none)) { s with heap:=qKe s.heap a vs (qEm (p.toList.map fun i=>vs.getD i Value.none)) }) :
  qBs (qCb prog w) A (Builtin.«list.sort» ⟨[.ref a],[]⟩) P E s:=by
 have ha:a<s.heap.objs.size:=qAy ho;have hsz:vs.toArray.size=vs.length:=by simp
 rw[list_sort_plain];refine qAd (listItems_at ho rfl ?_);refine qAd (listUpdate_at ho rfl ?_ (by rw[qBc,qFw];lia) (qBf _));obtain⟨e1,ho1⟩:∃e1,(s.heap.update a (Obj.mapSeq fun _=>(#[]:Array qAi))).get? a=some (qDq "list" #[] e1):=⟨_,qHc ho fun _=>#[]⟩;refine qAd (seqEpoch_at ho1 rfl ?_);refine qAd (wpAny_newTuple ?_ (by show vs.length<=_;rw[qFw];lia));refine qAd (wpAny_newList ?_ (qBf _));refine qCm ?_;have ho6:(((s.heap.update a (Obj.mapSeq fun _=>(#[]:Array qAi))).push (qDq "tuple" vs.toArray 0)).push (qDq "list" #[] 0)).get? a=some (qDq "list" #[] e1):=by
  rw[qMn _ _ _ (by rw[qLu,qHl];exact qBk (qJe ha)),qMn _ _ _ (by rw[qHl];exact qBk ha)];exact ho1
 have keep:∀b o,b≠a->s.heap.get? b=some o->(((s.heap.update a (Obj.mapSeq fun _=>(#[]:Array qAi))).push (qDq "tuple" vs.toArray 0)).push (qDq "list" #[] 0)).get? b=some o:=fun b o hb q=>by
  refine qAk _ (qAk _ ?_);rw[qGm _ _ _ _ hb];exact q
 show qBs (qCb prog w) A _ P E { s with heap:=((s.heap.update a (Obj.mapSeq fun _=>(#[]:Array qAi))).push (qDq "tuple" vs.toArray 0)).push (qDq "list" #[] 0) };dsimp only;by_cases h2:vs.toArray.size<2
 .rw[if_pos h2,if_pos h2];refine qAd (qAm ?_);rw[StateT.run_pure];refine qAd (qAm ?_);dsimp only;refine qAd (seqEpoch_at ho6 rfl ?_);refine qAd (listUpdate_at ho6 rfl ?_ (qBf _) (by rw[Array.size_map];show(pairsOf vs).size<=_;rw[pairsOf_size,qFw];lia));simp only[bne_self_eq_false,qFr,if_false];have e:(arrOf (SortSt.mk' general' (vs.toArray.zip vs.toArray) #[] 7 none)).map (·.2)=qEm ((qEm (qAh vs.length)).toList.map fun i=>vs.getD i Value.none):=by
   have hr:=kas_range (vs.toArray.zip vs.toArray);rw[show(vs.toArray.zip vs.toArray).size=vs.length by simp] at hr;exact kat_snds (ks:=vs) (vs:=vs) rfl (st:=SortSt.mk' general' (vs.toArray.zip vs.toArray) #[] 7 none) (p:=qEm (qAh vs.length)) hr.symm
  have z:=h (qEm (qAh vs.length)) (List.Perm.refl _) (Be (by lia) lt).symm;rw[<- e] at z;exact qAm z
 .rw[if_neg h2,if_neg h2];have h2':2<=vs.length:=by lia
  refine qAd (kat_kind (T:=.type "int") (ht _ keep) ?_ (fun v hv=>?_) #[1] ?_)
  .have t:=ht _ keep;cases vs with
   | nil=>simp at h2'
   | cons v r =>
    cases fs with
    | nil=>exact t.elim
    | cons f fr=>exact qOf _
  .obtain⟨i,t,rfl⟩:=hT v hv;exact .now
  show qBs (qCb prog w) A _ P E _;refine qAd (qFa (kat_run (ks:=vs) (κ:=tuples' true) (G:=fun p s'=>(iF vs.length p/\p=(kas_sort vs.length).run lt)/\s'={ s with heap:=((s.heap.update a (Obj.mapSeq fun _=>(#[]:Array qAi))).push (qDq "tuple" vs.toArray 0)).push (qDq "list" #[] 0) })
   (Q:=fun st' s'=>∃p:Array Nat,p.size=vs.length/\arrOf st'=p.map (kas_item (vs.toArray.zip vs.toArray))/\failedOf st'=none/\(iF vs.length p/\p=(kas_sort vs.length).run lt)/\s'={ s with heap:=((s.heap.update a (Obj.mapSeq fun _=>(#[]:Array qAi))).push (qDq "tuple" vs.toArray 0)).push (qDq "list" #[] 0) })
   rfl h2' h64 (fun p' st' s' a1 a2 a3 a4=>⟨p',a1,a2,a3,a4.1,a4.2⟩) ((lO (by lia)).wp lt (ask _ keep) fun p hp hrun=>⟨⟨hp,hrun⟩,rfl⟩)) ?_ fun _ _ e=>e)
  rintro⟨⟨⟩,st'⟩ s' ⟨p,hp,har,hf,hpm,rfl⟩;dsimp only;have hout:=kat_snds (ks:=vs) (vs:=vs) rfl har;rw[hout];refine qAd (seqEpoch_at ho6 rfl ?_);refine qAd (listUpdate_at ho6 rfl ?_ (qBf _) (by rw[qBc,qAa,qCa,hp,qFw];lia));rw[hf];simp only[bne_self_eq_false,qFr,if_false];exact qAm (h p hpm.1 hpm.2)
def j6(h:Heap)(vs:List qAi):Heap:=((h.push (qDq "list" #[] 0)).update h.objs.size (Obj.mapSeq (· ++ vs.toArray))).push (qDq "list" vs.toArray 0)
theorem lP(q:h.get? b=some o):(j6 h vs).get? b=some o:=by
 have hlt:b<h.objs.size:=qAy q;refine qAk _ ?_;rw[qGm _ _ _ _ (qBk hlt)];exact qAk _ q
theorem yR(hl:s.heap.IsList l vs.toArray)(h64:vs.length<64)(lt:Nat->Nat->Bool)
  (ht:∀h':Heap,(∀b o,s.heap.get? b=some o->h'.get? b=some o)->KatTups h' vs fs) (hT:∀v∈fs,∃i t,v=Value.int i t)
  (ask:∀h':Heap,(∀b o,s.heap.get? b=some o->h'.get? b=some o)->∀i j C,i<vs.length->j<vs.length->C (lt i j) { s with heap:=h' }->kas_ask prog w A.in1.in1 (tuples' true) vs i j C { s with heap:=h' })
  (h:∀p:Array Nat,iF vs.length p->p=(kas_sort vs.length).run lt->Q (.ref (s.heap.objs.size+1)) { s with heap:=sortedAll s.heap vs (qEm (p.toList.map fun i=>vs.getD i Value.none)) }) :
  qBs (qCb prog w) A (call (.builtin "sorted") [.ref l]) Q E s:=by
 refine Calls.call_function_entry kind_sorted plain_sorted entry_sorted (args_sorted1 _) ?_;delta Builtin.«sorted»;refine qAd (m:=checkCount "sorted" 1 1 _) (qAm ?_);refine qAd (collect_list hl ?_ (by rw[qFw];lia));refine qAd (wpAny_newList ?_ (by rw[qFw];lia));have hsz:((s.heap.push (qDq "list" #[] 0)).update s.heap.objs.size (Obj.mapSeq (· ++ vs.toArray))).objs.size=s.heap.objs.size+1:=by
  rw[qHl,qLu]
 have hoL:(((s.heap.push (qDq "list" #[] 0)).update s.heap.objs.size (Obj.mapSeq (· ++ vs.toArray))).push (qDq "list" vs.toArray 0)).get? (s.heap.objs.size+1)=some (qDq "list" vs.toArray 0):=by
  rw[<- hsz];exact qAz _ rfl
 show qBs _ _ _ _ _ { s with heap:=((s.heap.push (qDq "list" #[] 0)).update s.heap.objs.size (Obj.mapSeq (· ++ vs.toArray))).push (qDq "list" vs.toArray 0) };rw[hsz];have kp:∀h':Heap,(∀b o,b≠s.heap.objs.size+1->(j6 s.heap vs).get? b=some o->h'.get? b=some o)->∀b o,s.heap.get? b=some o->h'.get? b=some o:=fun h' hk b o q =>
  hk b o (qBk (qJe (qAy q))) (lP q)
 refine qAd (qCm (qFs slot_list_sort ⟨_,hoL,rfl⟩ entry_list_sort (qV (s:={ s with heap:=j6 s.heap vs }) (fs:=fs) hoL h64 lt (fun h' hk=>ht h' (kp h' hk)) hT (fun h' hk i j C hi hj hC=>ask h' (kp h' hk) i j C hi hj hC) fun p hp hrun=>⟨_,rfl,?_⟩) (args_list_sort _)));exact qAm ⟨_,rfl,h p hp hrun⟩
end
end PySem.W
namespace L2
open PySem PySem.Spec PyProof.Rows PySem.W
theorem z8:∀(vs us:List qAi) (ns ms:List Int) (i:Nat),qFe vs ns->qFe us ms->Q (HT.lexLt ns ms) s->KatLex prog w A true (decide (vs.length<us.length)) Q (vs.zip us) i s
 | [],[],_,_,i,.nil,.nil,h=>h
 | [],_::_,_,_,i,.nil,.cons ..,h=>by
  show Q (decide _) s;rw[decide_eq_true (by simp)];exact h
 | _::_,[],_,_,i,.cons ..,.nil,h=>by
  show Q (decide _) s;rw[decide_eq_false (by simp)];exact h
 | _,_,_,_,i,.cons n t (vs:=vs) (ns:=ns) hv,.cons m u (vs:=us) (ns:=ms) hu,h=>by
  show KatLex prog w A true (decide (vs.length+1<us.length+1)) Q ((Value.int n t,Value.int m u)::vs.zip us) i s;refine kat_cons ((SeqAt.EqAt.int_int n t m u) prog w _ _ ?_);rw[show decide (vs.length+1<us.length+1)=decide (vs.length<us.length) from decide_eq_decide.mpr (by lia)];rw[HT.gG] at h;by_cases e:n=m
  .rw[if_pos e] at h;rw[show(n == m)=true from by simpa using e];exact kat_yes (z8 vs us ns ms (i+1) hv hu h)
  .rw[if_neg e] at h;rw[show(n == m)=false from by simpa using e];refine kat_no ?_;cases hb:(true&&i == 0) with
   | true=>exact oneLt_int h
   | false=>exact kat_one _ _ (qNz h)
def intOf:V->Int
 | .int i=>i
 | _=>0
def gB(H:Hp)(a:Addr):List Int:=match H a with
 | some (.tup xs)=>xs.map intOf
 | _=>[]
theorem fV(h:H a=some (.tup (ns.map V.int))):gB H a=ns:=by
 delta gB;rw[h];show(ns.map V.int).map intOf=ns;rw[qBo];exact List.map_id'' (fun _=>rfl) ns
theorem r9:∀{as:List Addr}{us:List qAi},Vals (as.map V.ref) us->us=as.map Value.ref
 | [],_,.nil=>rfl
 | a::as,_,.cons r t=>by
  cases r
  rw[r9 t];rfl
theorem sA:∀(as:List Addr),Vals (as.map V.ref) (as.map Value.ref)
 | []=>.nil
 | a::as=>.cons rfl (sA as)
section
variable {X:Cx}{pins:List (Addr×Obj)}{σ:St}{H:Hp}{s:qAp}
def Bf(H:Hp)(a:Addr):Prop:=∃(i:Int) (ns:List Int),H a=some (.tup ((i::ns).map V.int))
theorem Bf.there(I:Inv X pins σ H s){a:Addr}(h:Bf H a):∃(o:Obj) (xs:List qAi) (n:Nat) (i:Int) (t:Tok),s.heap.get? a=some o/\o.cls = .type "tuple"/\o.data = .seq xs.toArray n/\qFe xs (gB H a)/\xs[0]?=some (.int i t):=by
 obtain⟨i,ns,h⟩:=h;obtain⟨its,r,⟨o,h1,h2,n,h3⟩,_⟩:=I.tuple (cQ.of h);have hi:=intsAre_of r;rw[<- fV h] at hi;exists o,its,n,i;obtain⟨u,hu,⟨t,rfl⟩⟩:=r.get (i:=0) (x:=.int i) rfl;exact⟨t,h1,h2,h3,hi,hu⟩
theorem pI(I:Inv X pins σ H s):∀(as:List Addr),(∀a∈as,Bf H a)->∃fs,(∀v∈fs,∃i t,v=Value.int i t)/\∀h':Heap,(∀b o,s.heap.get? b=some o->h'.get? b=some o)->KatTups h' (as.map Value.ref) fs
 | [],_=>⟨[],fun v hv=>(by cases hv),fun _ _=>KatTups.nil⟩
 | a::as,h=>by
  obtain⟨fs,h1,h2⟩:=pI I as fun b hb=>h b (by simp[hb]);obtain⟨o,xs,n,i,t,g1,g2,g3,g4,g5⟩:=(h a (by simp)).there I;refine⟨.int i t::fs,fun v hv=>?_,fun h' k=>KatTups.cons (k _ _ g1) g2 g3 (by simpa using g5) (h2 h' k)⟩;rcases List.mem_cons.mp hv with rfl | hv
  .exact⟨i,t,rfl⟩
  .exact h1 v hv
theorem n8(hb:b≠a)(q:h.get? b=some o):(qKe h a vs out).get? b=some o:=by
 delta qKe;rw[qGm _ _ _ _ hb];refine qAk _ (qAk _ ?_);rw[qGm _ _ _ _ hb];exact q
theorem sortedHeap_at(ho:h.get? a=some (qDq "list" vs.toArray n)):∃c,(qKe h a vs out).get? a=some (qDq "list" out c):=by
 obtain⟨e1,ho1⟩:∃e1,(h.update a (Obj.mapSeq fun _=>(#[]:Array qAi))).get? a=some (qDq "list" #[] e1):=⟨_,qHc ho fun _=>#[]⟩;delta qKe;exact⟨_,qHc (qAk _ (qAk _ ho1)) fun _=>out⟩
theorem range_getD(as:List Addr):(qAh as.length).map (fun i=>as.getD i 0)=as:=by
 refine List.ext_getElem (by simp) fun i h1 h2=>?_;simp[h2]
theorem kI:eZ X (.builtin "sorted") (fun xs H Q=>∃(p:Addr) (as:List Addr),xs=[.ref p]/\aV X.K H p (as.map V.ref)/\(∀a∈as,Bf H a)/\as.length<64/\∀(l:Addr) (bs:List Addr),H l=none->bs.Perm as->bs=((kas_sort as.length).run fun i j=>HT.lexLt (gB H (as.getD i 0)) (gB H (as.getD j 0))).toList.map (fun i=>as.getD i 0)->Q (.ref l) (upd H l (.lst (bs.map V.ref)))):=by
 intro pins s σ H xs us Q I r h;obtain⟨p,as,rfl,hq,ht,h64,q⟩:=h;obtain⟨u,rfl,rx⟩:=vals1 r;cases rx;obtain⟨its,r',pl,hz⟩:=I.list hq;obtain rfl:=r9 r';obtain⟨fs,f1,f2⟩:=pI I as ht;have hlen:(as.map Value.ref).length=as.length:=qAa _;refine yR pl.isList (by rw[hlen];exact h64) (fun i j=>HT.lexLt (gB H (as.getD i 0)) (gB H (as.getD j 0))) f2 f1 (fun h' k i j C hi hj hC=>?_) fun pm hp hrun=>?_
 .rw[hlen] at hi hj;obtain⟨o1,x1,n1,_,_,a1,a2,a3,a4,_⟩:=(ht (as.getD i 0) (by rw[qAj,qAc hi];exact qDm hi)).there I;obtain⟨o2,x2,n2,_,_,b1,b2,b3,b4,_⟩:=(ht (as.getD j 0) (by rw[qAj,qAc hj];exact qDm hj)).there I;have e:∀i,i<as.length->(as.map Value.ref).getD i Value.none = .ref (as.getD i 0):=fun i hi=>by
   rw[qAj,qAf,qAc hi,qAj,qAc hi];rfl
  delta kas_ask;rw[e i hi,e j hj];refine kat_lt (k _ _ a1) a3 (k _ _ b1) b3 ?_;simpa using z8 x1 x2 _ _ 0 a4 b4 hC
 .rw[hlen] at hp;have kp:∀b o,s.heap.get? b=some o->(sortedAll s.heap (as.map Value.ref) (qEm (pm.toList.map fun i=>(as.map Value.ref).getD i Value.none))).get? b=some o:=fun b o e =>
   n8 (h:=j6 s.heap (as.map Value.ref)) (qBk (qJe (qAy e))) (lP e)
  have hsz:((s.heap.push (qDq "list" #[] 0)).update s.heap.objs.size (Obj.mapSeq (· ++ (as.map Value.ref).toArray))).objs.size=s.heap.objs.size+1:=by
   rw[qHl,qLu]
  have hoL:(j6 s.heap (as.map Value.ref)).get? (s.heap.objs.size+1)=some (qDq "list" (as.map Value.ref).toArray 0):=by
   delta j6;rw[<- hsz];exact qAz _ rfl
  obtain⟨c,hc⟩:=sortedHeap_at (out:=qEm (pm.toList.map fun i=>(as.map Value.ref).getD i Value.none)) hoL;have eo:(pm.toList.map fun i=>(as.map Value.ref).getD i Value.none)=(pm.toList.map fun i=>as.getD i 0).map Value.ref:=by
   rw[qBo];refine qDa fun i hi=>?_;have hi:i<as.length:=List.mem_range.mp (hp.mem_iff.mp hi);show _=Value.ref (as.getD i 0);rw[qAj,qAf,qAc hi,qAj,qAc hi];rfl
  have hpm:(pm.toList.map fun i=>as.getD i 0).Perm as:=by
   have z:=hp.map (fun i=>as.getD i 0);rw[range_getD] at z;exact z
  refine⟨.ref (s.heap.objs.size+1),_,I.laid (a:=s.heap.objs.size+1) (o:=.lst ((pm.toList.map fun i=>as.getD i 0).map V.ref)) (t':=s.toks) kp (qGn _) ?_,rfl,q _ _ (I.cK.fresh (qGn _)) hpm (by rw[hrun,hlen])⟩;exists ?_,(pm.toList.map fun i=>as.getD i 0).map Value.ref,c,sA _
  .rw[qAa,hpm.length_eq,qFw];lia
  .rw[<- eo];exact hc
theorem sC:qCx "sorted"=some (.builtin "sorted"):=by decide +kernel
end
section
variable {X:Cx}{a b c d:Expr}{ta tb tc td:TE}{pos:Pos}
def Fi(r r' r'':R2)(ta tb tc td:TE):TT:=fun σ H Q=>ta σ H fun x H1=>tb σ H1 fun y H2=>r x y H2 fun z H3=>∃k,z = .bl k /\
 (if k=true then tc σ H3 fun w' H4=>r' y w' H4 fun z2 H5=>∃k2,z2 = .bl k2/\(if k2=true then td σ H5 fun v' H6=>r'' w' v' H6 fun z3 H7=>∃k3,z3 = .bl k3/\Q k3 H7 else Q false H5) else Q false H3)
theorem Bg(ho:hU X (qDd op) r)(ho':hU X (qDd op') r')(ho'':hU X (qDd op'') r'')(ha:PE X a ta)(hb:PE X b tb)(hc:PE X c tc)(hd:PE X d td)
  (hm:lastMarks [op,op',op''] [b,c,d]=false:=by with_unfolding_all rfl):PT X (.Compare a [op,op',op''] [b,c,d] pos) (Fi r r' r'' ta tb tc td):=by
 intro pins s σ H Q I h;refine isTrue_chain (cA (ha pins s σ H _ I h) fun v s1 ⟨x,H1,I1,r1,q1⟩=>test_link (cA (hb pins s1 σ H1 _ I1 q1) fun u s2 ⟨y,H2,I2,r2,q2⟩ =>
  cA (ho pins s2 σ H2 x y v u _ I2 r1 r2 q2) fun e1 s3 z9=>?_)) hm;obtain⟨z,H3,I3,r3,k,e,q3⟩:=z9
 subst e;cases r3;refine qCw ?_;cases k with
 | false=>exact ite_ff ⟨H3,I3,q3⟩
 | true =>
  refine ite_tt (test_link (cA (hc pins s3 σ H3 _ I3 q3) fun w' s4 ⟨z',H4,I4,r4,q4⟩=>cA (ho' pins s4 σ H4 y z' u w' _ I4 r2 r4 q4) fun d' s5 z9=>?_));obtain⟨z2,H5,I5,r5,k2,e2,q5⟩:=z9;subst e2;cases r5;refine qCw ?_;cases k2 with
  | false=>exact ite_ff ⟨H5,I5,q5⟩
  | true =>
   refine ite_tt (test_last (cA (hd pins s5 σ H5 _ I5 q5) fun v' s6 ⟨z4,H6,I6,r6,q6⟩=>cA (ho'' pins s6 σ H6 z' z4 w' v' _ I6 r4 r6 q6) fun d2 s7 z9=>?_));obtain⟨z3,H7,I7,r7,k3,e3,q7⟩:=z9;subst e3;cases r7;exact qCw ⟨H7,I7,q7⟩
end
section
variable {K:qAb}{a:Addr}{xs:List V}{σ0:St}{H1:Hp}{g:TG}{c:TT}{te:TE}{Q:Addr->Hp->Prop}
theorem gJ(Ag:St->Prop)(f:Nat->V->Option V)(h0:Ag σ0)(hq:aV K H1 a xs)(hn:xs.length<=qAg)
  (step:∀(i:Nat) (x:V) (σ1:St) (H2:Hp) (k:St->VK) (k0:St->Hp->Prop),Ag σ1->aJ H1 H2->xs[i]?=some x->(∀σ2 y,Ag σ2->f i x=some y->∀H3,aJ H2 H3->k σ2 y H3)->(∀σ2,Ag σ2->f i x=none->∀H3,aJ H2 H3->k0 σ2 H3) ->
   g x σ1 H2 fun σ2 H3=>c σ2 H3 fun b H4=>if b=true then te σ2 H4 (k σ2) else k0 σ2 H4)
  (h:∀D H2,H1 D=none->aJ H1 H2->H2 D=some (.lst ((qAh xs.length).filterMap fun i=>(xs[i]?).bind (f i)))->Q D H2) :
  ∀D,H1 D=none->∃W:Nat->Nat->St->Hp->Prop,(∃m,W 0 m σ0 (upd H1 D (.lst [])))/\∀i m σ1 H2,W i m σ1 H2 ->
   ((uP K a).stop i H2/\Q D H2)\/((uP K a).go i H2/\∃N:St->Hp->Prop,(∀σ' H',N σ' H'->∃m',m'<m/\W (i+1) m' σ' H') /\
    ∀x H',(uP K a).tE i H2 x H'->g x σ1 H' fun σ2 H3=>c σ2 H3 fun b H4=>if b=true then te σ2 H4 fun y H5=>∃xs,H5 D=some (.lst xs)/\xs.length<qAg/\N σ2 (upd H5 D (.lst (xs++[y]))) else N σ2 H4):=by
 intro D hD;exists fun i m σ1 H2=>Ag σ1/\aJ H1 H2/\H2 D=some (.lst ((qAh i).filterMap fun i=>(xs[i]?).bind (f i)))/\i<=xs.length/\m=xs.length-i,⟨xs.length,h0,.aI hD,aC,qBf _,rfl⟩;rintro i m σ1 H2 ⟨hσ,hs,hd,hi,rfl⟩;rcases qBj i xs.length with hlt | hge
 .right
  refine⟨⟨xs,xs[i],hs.seq hq,by simp[hlt]⟩,fun σ' H'=>Ag σ'/\aJ H1 H'/\H' D=some (.lst ((qAh (i+1)).filterMap fun i=>(xs[i]?).bind (f i))),(by rintro σ' H' ⟨a,b,c⟩;exact ⟨xs.length-(i+1),by lia,a,b,c,hlt,rfl⟩),?_⟩;rintro x H' ⟨rfl,hx⟩;have hx:=hx xs (hs.seq hq);refine step i x σ1 _ (fun σ2 y H5=>∃xs,H5 D=some (.lst xs)/\xs.length<qAg/\_) _ hσ hs hx (fun σ2 y a2 hy H3 hs3=>⟨_,hs3 _ _ hd,?_,a2,?_,?_⟩) fun σ2 a2 hno H3 hs3=>⟨a2,hs.trans hs3,?_⟩
  .refine qBi (qCy _ _) ?_;rw[qBg];lia
  .exact(hs.trans hs3).upd_ne' hD
  .rw[aC,qCt,qBy];simp[hx,hy]
  .rw[hs3 _ _ hd,qCt,qBy];simp[hx,hno]
 .left
  obtain rfl:i=xs.length:=qDe hi hge;exact⟨⟨xs,hs.seq hq,qAl _⟩,h D _ hD hs hd⟩
end
section
variable {X:Cx}{Ex:XS}{o e:Expr}{es:List Expr}{ta:TE}{t:TA}{m:Str}{apos pos:Pos}{j k:Nat}
theorem sD(P:qBl)(w:qCr)(K:qAb)(mg:Str->Option qAi)(base:Heap)(h1:X.prog=P)(h2:X.w=w)(h3:X.K=K)(h4:X.mg=mg)(h5:X.base=base){pl:Sem Bool}(R:Pass X Ex)(he:PE X o ta)(hr:dE j X.A)(hj:k<=j)(ha:PA X (e::es) t)
  (hst:qBx (e::es) X.env=(false,eval e X.env)::qBx es X.env:=by rfl) (hpl:(qFb pos (qBx es X.env)).any (·.1)=false:=by rfl)
  (ht:eval (.Call (.Attribute o m apos) (e::es) [] pos) X.env=(do
   let v <- eval o X.env
   qKd apos.atName
   let (f,first) <- qGz [v] (qIr v m pl)
   qMh pos f first (qFb pos (qBx (e::es) X.env)) (qGt pos (qEw [] X.env))):=by rfl) :
  PE X (.Call (.Attribute o m apos) (e::es) [] pos) (tR K (fun g sp=>∃ps,Md P w K mg base k ps sp g) m Ex ta t):=by
 subst h1 h2 h3 h4 h5;exact jP R he hr hj ha hst hpl ht
theorem pJ(P:qBl)(w:qCr)(K:qAb)(mg:Str->Option qAi)(base:Heap)(h1:X.prog=P)(h2:X.w=w)(h3:X.K=K)(h4:X.mg=mg)(h5:X.base=base){pl:Sem Bool}(R:Pass X Ex)(he:PE X o ta)(hr:dE j X.A)(hj:k<=j)
  (ht:eval (.Call (.Attribute o m apos) [] [] pos) X.env=(do
   let v <- eval o X.env
   qKd apos.atName
   let (f,first) <- qGz [v] (qIr v m pl)
   qMh pos f first (qFb pos (qBx [] X.env)) (qGt pos (qEw [] X.env))):=by rfl) :
  PE X (.Call (.Attribute o m apos) [] [] pos) (tR K (fun g sp=>∃ps,Md P w K mg base k ps sp g) m Ex ta kD):=by
 subst h1 h2 h3 h4 h5;exact fO R he hr hj ht
end
section
variable {X:Cx}
end
section
variable {K:qAb}{a:Addr}{xs:List V}{σ0:St}{H1:Hp}{i0:Nat}{c:TT}{te:TE}{Q:Addr->Hp->Prop}
end
def kE(X:Cx)(NB:List Str)(sc:qJh)(cl:List (Str×Addr))(y0:Str)(s₃:qAp)(H₃:Hp)(fp:List Addr):Cx :=
 { X with N:=NB,s₀:=s₃,H₀:=H₃,env:=compEnvC sc ((y0,s₃.heap.objs.size+1)::cl) s₃.heap.objs.size X.env,outer:=X.stack,stack:=X.stack,ex:=fp,fn:=fun y=>y == y0,pn:=[],xe:=fun _ _=>False }
structure Bh (X:Cx) (NB:List Str) (pick:List (Option Nat)) (sc:qJh) (cl:List (Str×Addr)) (y0:Str):Prop where
 yJ:qLt sc X.env=pure cl
 kind:sc.kind = .function
 IP:∀n,qJt n sc.names cl=(y0,n)::cl
 Nk:∀h:Heap,pushCells h sc.names=h.push { cls:=.type "cell",data:=.cell none }
 names:∀y∈sc.names,y.2 = .local->sc.names.lookup y.1=some .local
 sub:nL X.env.cells cl
 has:∀n x,((qIp sc X.env).names.lookup x=some .cell\/(qIp sc X.env).names.lookup x=some .free)->∃c,((y0,n)::cl).lookup x=some c
 len:pick.length=NB.length
 got:∀(j i:Nat) (x:Str),pick[j]?=some (some i)->NB[j]?=some x->(X.N[i]?=some x/\(X.env.kindOf x=some .cell\/X.env.kindOf x=some .free)/\(qIp sc X.env).names.lookup x=some .cell)/\(x == y0)=false
def mS(y0:Str):List (Option Nat)->List Str->Bool
 | some _::p,x::r=>!(x == y0)&&mS y0 p r
 | none::p,_::r=>mS y0 p r
 | _,_=>true
theorem mT:∀{p:List (Option Nat)}{r:List Str},mS y0 p r=true->∀(j i:Nat) (x:Str),p[j]?=some (some i)->r[j]?=some x->(x == y0)=false
 | [],_,_,j,i,x,h,_=>by simp at h
 | _::_,[],_,j,i,x,_,h=>by simp at h
 | some k::p,y::r,h,0,i,x,h1,h2=>by
  have z:(!(y == y0)&&mS y0 p r)=true:=h;rw[qAv] at z;obtain rfl:y=x:=Option.some.inj h2;simpa using z.1
 | none::p,y::r,h,0,i,x,h1,h2=>by cases (Option.some.inj h1)
 | some k::p,y::r,h,j+1,i,x,h1,h2=>by
  have z:(!(y == y0)&&mS y0 p r)=true:=h;rw[qAv] at z;exact mT z.2 j i x h1 h2
 | none::p,y::r,h,j+1,i,x,h1,h2=>mT (p:=p) (r:=r) h j i x h1 h2
theorem Fj(yJ:qLt sc X.env=pure cl)(sub:nL X.env.cells cl)(kind:sc.kind = .function)(cb:∀n,qJt n sc.names cl=(y0,n)::cl)
  (pb:∀h:Heap,pushCells h sc.names=h.push { cls:=.type "cell",data:=.cell none }) (names:∀y∈sc.names,y.2 = .local->sc.names.lookup y.1=some .local) (has:∀n,hasB ((y0,n)::cl) (qIp sc X.env).names=true) (got:vH X.N X.env.scope.names (qIp sc X.env).names pick NB=true) (no:mS y0 pick NB=true):Bh X NB pick sc cl y0 :=
 ⟨yJ,kind,cb,pb,names,sub,fun n=>zW (has n),lG got,fun j i x h1 h2=>⟨oG got j i x h1 h2,mT no j i x h1 h2⟩⟩
theorem oN(h:c<n)(e:c=n+1):False:=by lia
theorem eT{y0 x:Str}{n c:Addr}{cl:List (Str×Addr)}(h:((y0,n)::cl).lookup x=some c):(x=y0/\c=n)\/cl.lookup x=some c:=by
 rw[qJl] at h;cases hx:x == y0 with
 | true =>
  rw[hx] at h;cases h;exact .inl ⟨by simpa using hx,rfl⟩
 | false =>
  rw[hx] at h;exact .inr h
section
variable {M:Model}{A:qDf}{E:qAi->qAp->Prop}{s:qAp}
theorem yS(cb:∀n,qJt n sc.names cl=(y0,n)::cl)(pb:∀h:Heap,pushCells h sc.names=h.push { cls:=.type "cell",data:=.cell none })
  (hQ:∀h',h'.Ns s.heap.objs.size (fun _=>none)->h'.IsCell (s.heap.objs.size+1) none->(∀b o,s.heap.get? b=some o->h'.get? b=some o) ->
   Q { scope:=sc,locals:=s.heap.objs.size,globals,cells:=(y0,s.heap.objs.size+1)::cl,qual,func:=none,code:=out.code,frame:=out.frame,builtins:=out.builtins } { s with heap:=h' }) :
  qBs M A (newFunctionEnv sc globals cl [] qual none .none (some out)) Q E s:=by
 simp only[newFunctionEnv,qLl,if_true];refine qAd (wpAny_alloc ?_);refine qAd (wpAny_layCells _ (fun name kind cells=>by cases hkc:kind == NameKind.cell <;> simp[hkc]) _ _ _ _ ?_);rw[cb,pb,show({ s with heap:=s.heap.push { cls:=.type "dict",data:=.dict #[] } }:qAp).heap.objs.size=s.heap.objs.size+1 from qGu ..];refine qAd ?_;rw[List.forIn_nil];refine qAm (qAm ?_);refine hQ _ ((Heap.Ns.new s.heap (.type "dict")).keeps fun b o e=>qAk _ e) ?_ fun b o e=>qAk _ (qAk _ e);have e:(s.heap.push { cls:=.type "dict",data:=.dict #[] }).objs.size=s.heap.objs.size+1:=qGu ..;rw[<- e];exact⟨_,qAz _ rfl,rfl⟩
end
section
variable {X:Cx}{NB:List Str}{pick:List (Option Nat)}{sc:qJh}{cl:List (Str×Addr)}{y0:Str}{pins:List (Addr×Obj)}{σ:St}{H:Hp}{s:qAp}{fp:List Addr}
theorem sub_lt(I:Inv X pins σ H s)(B:Bh X NB pick sc cl y0){x:Str}{c:Addr}(h:cl.lookup x=some c):c<s.heap.objs.size:=by
 obtain⟨v,q⟩:=I.cell x c (B.sub.of x c h);exact q.lt
theorem Fm(I:Inv X pins σ H s)(B:Bh X NB pick sc cl y0)(hf:∀b∈fp,gX X pins H b)(hex:∀b∈fp,∃o,s.heap.get? b=some o):(kE X NB sc cl y0 s H fp).Ok:=by
 have nfs:∀b∈fp,b∉oW X.stack:=fun b hb z=>by
  rcases List.mem_cons.mp (I.kO b z) with e | e
  .exact(hf b hb).2.1 e
  .exact(hf b hb).2.2.1 e
 refine⟨I.ok.mod,B.kind,I.ok.glob,I.ok.blt,qAl _,fun x y c h1 h2=>?_,fun x hx=>B.has _ x hx,fun x c h e=>?_,I.ok.hd,I.ok.frames,.inl rfl,fun b hb=>⟨?_,fun x c h e=>?_⟩,I.bs,qAx I.ok.EF I.sz,fun b o e hb=>?_,nfs,I.stack,I.oE⟩
 .rcases eT h1 with ⟨e1,e2⟩ | e1
  .rcases eT h2 with ⟨f1,f2⟩ | f1
   .rw[e1,f1]
   .exact(oN (sub_lt I B f1) e2).elim
  .rcases eT h2 with ⟨f1,f2⟩ | f1
   .exact(oN (sub_lt I B e1) f2).elim
   .exact I.ok.inj x y c (B.sub.of x c e1) (B.sub.of y c f1)
 .rcases eT e with ⟨e1,e2⟩ | e1
  .rw[e2];exact qGn _
  .have e0:x=y0:=by simpa using (show(x == y0)=true from h)
   have z:((y0,s.heap.objs.size+1)::cl).lookup x=some (s.heap.objs.size+1):=by rw[e0,qJl];simp
   have e':c=s.heap.objs.size+1:=Option.some.inj ((show((y0,s.heap.objs.size+1)::cl).lookup x=some c from e).symm.trans z);rw[e'];exact qGn _
 .obtain⟨o,ho⟩:=hex b hb;exact qBk (qAy ho)
 .rcases eT h with ⟨e1,e2⟩ | e1
  .obtain⟨o,ho⟩:=hex b hb;exact(oN (qAy ho) (e.symm.trans e2)).elim
  .exact(hf b hb).2.2.2.2.1 x c (B.sub.of x c e1) e
 .rcases(hf b hb).2.2.2.1 with z | z
  .exact I.ok.AH b o e z
  .exact absurd (qAr (qAy (I.ok.bs b o e).1) z) (qEg _)
theorem yT{h':Heap}(I:Inv X pins σ H s)(B:Bh X NB pick sc cl y0)(hf:∀b∈fp,gX X pins H b)(hex:∀b∈fp,∃o,s.heap.get? b=some o)
  (hn:h'.Ns s.heap.objs.size (fun _=>none)) (hce:h'.IsCell (s.heap.objs.size+1) none) (hs:∀b o,s.heap.get? b=some o->h'.get? b=some o) (t:Nat):Inv (kE X NB sc cl y0 s H fp) [] (pC pick σ) H { s with heap:=h',toks:=t }:=by
 exists Fm I B hf hex,rfl,I.bare,Un.kept hs,⟨_,hn,fun j x v h1 h2 h3=>?_⟩,fun x c e=>?_,I.cK.fresh (qAl _),fun x c e=>?_,fun p hp=>absurd (show p∈([]:List (Addr×Obj)) from hp) (by simp),I.cK.kept hs
 .have h2':(pick.map fun o=>o.bind fun i=>(σ[i]?).join)[j]?=some (some v):=h2;rw[qAf] at h2';cases hp:pick[j]? with
  | none=>rw[hp] at h2';cases h2'
  | some o =>
   rw[hp] at h2';cases o with
   | none=>cases h2'
   | some i =>
    have h2'':(σ[i]?).join=some v:=Option.some.inj h2';obtain⟨⟨g1,g2,g3⟩,ny⟩:=B.got j i x hp h1;have hσ:σ[i]?=some (some v):=by
     cases hq:σ[i]? with
     | none=>rw[hq] at h2'';cases h2''
     | some z=>rw[hq] at h2'';have e:z=some v:=h2'';rw[e]
    obtain⟨m,_,hl⟩:=I.loc;obtain⟨u,r,L⟩:=hl i x v g1 hσ (.inr g2);exists u,r;rcases L with ⟨k,_⟩ | ⟨_,c,hc,⟨o,ho,hd⟩⟩
    .rcases g2 with g2 | g2 <;> rw[k] at g2 <;> cases g2
    .obtain⟨c',hc'⟩:=B.has (s.heap.objs.size+1) x (.inl g3);rcases eT hc' with ⟨e1,_⟩ | e1
     .rw[e1] at ny;simp at ny
     .have e:c'=c:=Option.some.inj ((B.sub.of x c' e1).symm.trans hc);subst e;exact .inr ⟨.inl g3,c',hc',o,hs _ _ ho,hd⟩
 .rcases eT e with ⟨_,e2⟩ | e1
  .rw[e2];exact⟨none,hce⟩
  .obtain⟨v,o,ho,hd⟩:=I.cell x c (B.sub.of x c e1);exact⟨v,o,hs _ _ ho,hd⟩
 .rcases eT e with ⟨_,e2⟩ | e1
  .rw[e2];exact I.cK.fresh (qGn _)
  .exact I.jG x c (B.sub.of x c e1)
 .show(pC pick σ).length=NB.length;delta pC;rw[qAa];exact B.len
theorem Dd(I:Inv X pins σ H s)(hf:∀b∈fp,gX X pins H b)(J:Inv (kE X NB sc cl y0 s H fp) [] σ' H' s'):Inv X pins σ H' s':=by
 refine I.call' (ch:=fp) J.os J.base J.cK J.bare fun b hb=>?_;obtain⟨_,f1,_,f3,f4,f5⟩:=hf b hb;exact⟨f3,f1,f4,f5⟩
end
section
variable {X:Cx}{NB:List Str}{pick:List (Option Nat)}{sc:qJh}{cl:List (Str×Addr)}{y0:Str}{elt target iter:Expr}{ifs:List Expr}{pos:Pos}{wi:TI}{g:TG}{c:TT}{te:TE}
theorem Bj{pins:List (Addr×Obj)}{s:qAp}{σ:St}{H:Hp}{use:Option (qAi->Sem Unit)}{Q:Addr->Hp->Prop}{QV:qAi->qAp->Prop}(B:Bh X NB pick sc cl y0)(hc:X.calm=true)(hi:PI X target iter wi)
  (hg:∀s₃ H₃ fp,PG (kE X NB sc cl y0 s₃ H₃ fp) target g) (ht:∀s₃ H₃ fp,vJ (kE X NB sc cl y0 s₃ H₃ fp) ifs c) (he:∀s₃ H₃ fp,PE (kE X NB sc cl y0 s₃ H₃ fp) elt te)
  (hs:∀x,qFh iter X.env x=pure x) (I:Inv X pins σ H s) (h:vI wi pick g c te σ H Q)
  (fin:∀(D C:Addr) (s':qAp) (H':Hp),Inv X pins σ H' s'->Q D H'->H' C=none->C≠X.env.locals->X.s₀.heap.objs.size<=C->(∀x a,X.env.cells.lookup x=some a->a≠C)->(∀p∈X.pn++pins,p.1≠C)->(∃m,s'.heap.Ns C m) ->
   qNo (qCb X.prog X.w) X.A X.xe use QV (.ref D) C (.ok .next) s') :
  qBs (qCb X.prog X.w) X.A (qJs (.ListComp elt [⟨target,iter,ifs,0⟩] sc pos) sc X.env (firstIterPos [⟨target,iter,ifs,0⟩] pos) (qOp []) false (eval iter X.env) use) QV X.xe s:=by
 refine wpAny_comprehension_free rfl hs B.yJ B.kind B.names (cA (hi pins s σ H _ I h) fun v s1 h1=>cA h1 fun itv s2 h2=>?_);obtain⟨it,fp,tn,J,H2,e,I2,T,st2,f2,h2⟩:=h2;subst e;refine qDr ?_;have I3:Inv X pins σ (upd H2 s2.heap.objs.size (.lst [])) { s2 with heap:=s2.heap.push { cls:=.type "list",dict:=none,data:=.seq ([]:List qAi).toArray } } :=
  I2.laid (t':=s2.toks) (fun b u e=>qAk _ e) (qAl _) ⟨qBf _,[],0,.nil,qAz _ rfl⟩
 have hf:H2 s2.heap.objs.size=none:=I2.cK.fresh (qAl _);have lt:∀b∈fp,b≠s2.heap.objs.size:=fun b hb=>by
  obtain⟨o,ho,_⟩:=T.obj _ _ st2 b hb;exact qBk (qAy ho)
 have f3:∀b∈fp,gX X pins (upd H2 s2.heap.objs.size (.lst [])) b:=fun b hb=>⟨by rw[aQ (lt b hb)];exact(f2 b hb).1,(f2 b hb).2⟩;generalize hs3:({ s2 with heap:=s2.heap.push { cls:=.type "list",dict:=none,data:=.seq ([]:List qAi).toArray } }:qAp)=s3 at I3|-;have kp3:∀b o,s2.heap.get? b=some o->s3.heap.get? b=some o:=fun b o e=>by
  rw[<- hs3];exact qAk _ e
 have hex:∀b∈fp,∃o,s3.heap.get? b=some o:=fun b hb=>by
  obtain⟨o,ho,_⟩:=T.obj _ _ st2 b hb;exact⟨o,kp3 b o ho⟩
 have st3:tn 0 s3.heap:=T.keep _ _ _ st2 fun b _ o e=>kp3 b o e;obtain⟨W,⟨m0,w0⟩,turn⟩:=h2 _ hf;refine yS B.IP B.Nk (fun h₁ hns₁ hce₁ kp4=>?_);have J4:=yT I3 B f3 hex hns₁ hce₁ kp4 s3.toks;have st4:tn 0 h₁:=T.keep _ _ _ st3 fun b _ o e=>kp4 b o e;have stat:∀{H':Hp},(∀b∈fp,H' b=none)->∀b∈fp,gX (kE X NB sc cl y0 s3 (upd H2 s2.heap.objs.size (.lst [])) fp) [] H' b:=fun {H'} hn b hb=>by
  obtain⟨o,ho⟩:=hex b hb;refine⟨hn b hb,qBk (qAy ho),fun z=>?_,.inl hb,fun x a e=>(eT e).elim (fun q z=>oN (qAy ho) (z.symm.trans q.2)) (fun e1=>(f2 b hb).2.2.2.2.1 x a (B.sub.of x a e1)),fun p hp=>absurd (show p∈([]:List (Addr×Obj)) from hp) (by simp)⟩;rcases List.mem_cons.mp (I2.kO b z) with e | e
  .exact(f2 b hb).2.1 e
  .exact(f2 b hb).2.2.1 e
 have loop:qHb (qCb X.prog X.w) X.A (.compLoop (.ListComp elt [⟨target,iter,ifs,0⟩] sc pos) 0 (.ref it) (.ref s2.heap.objs.size) (kE X NB sc cl y0 s3 (upd H2 s2.heap.objs.size (.lst [])) fp).env)
   (qNo (qCb X.prog X.w) X.A X.xe use QV (.ref s2.heap.objs.size) s3.heap.objs.size) { s3 with heap:=h₁,toks:=s3.toks }:=by
  refine lI (fun n s'=>∃i σ' H',Inv (kE X NB sc cl y0 s3 (upd H2 s2.heap.objs.size (.lst [])) fp) [] σ' H' s'/\tn i s'.heap/\(∀b∈fp,H' b=none)/\W i n σ' H') ?_ m0 ⟨0,_,_,J4,st4,fun b hb=>(f3 b hb).1,w0⟩;rintro n s5 ⟨i,σ5,H5,I5,st5,fr5,w5⟩;rcases turn i n σ5 H5 w5 with ⟨stop,qn⟩ | ⟨go,N,hN,step⟩
  .refine cA (T.done (kE X NB sc cl y0 s3 (upd H2 s2.heap.objs.size (.lst [])) fp) rfl rfl rfl hc i [] s5 σ5 H5 _ I5 (stat fr5) st5 stop) fun r s6 z9=>?_;obtain⟨hr,I6⟩:=z9;subst hr;refine fin s2.heap.objs.size s3.heap.objs.size s6 H5 (Dd I3 f3 I6) qn I6.free (qBk I3.lt).symm I3.sz (fun x a e=>?_) (fun p hp=>?_) ?_
   .obtain⟨v,o,ho,_⟩:=I3.cell x a e;exact qBk (qAy ho)
   .exact qBk (qAy (I3.pin p hp).1)
   .obtain⟨m,hn,_⟩:=I6.loc;exact⟨m,hn⟩
  .refine cA (T.item (kE X NB sc cl y0 s3 (upd H2 s2.heap.objs.size (.lst [])) fp) rfl rfl rfl hc i [] s5 σ5 H5 _ I5 (stat fr5) st5 go) fun r s6 z9=>?_;obtain⟨u,hr,h6⟩:=z9;subst hr;refine cA h6 fun _ s7 z9=>?_;obtain⟨x,H7,I7,r7,y7,st7,fr7⟩:=z9;have I7':=I7.pinned (stat fr7) (T.obj _ _ st7);have qNg:∀{s9:qAp}{σ9:St}{H9:Hp},Inv (kE X NB sc cl y0 s3 (upd H2 s2.heap.objs.size (.lst [])) fp) ([]++mL fp s7.heap) σ9 H9 s9->N σ9 H9 ->
     ∃m,m<n/\∃i σ' H',Inv (kE X NB sc cl y0 s3 (upd H2 s2.heap.objs.size (.lst [])) fp) [] σ' H' s9/\tn i s9.heap/\(∀b∈fp,H' b=none)/\W i m σ' H':=fun {s9 σ9 H9} I9 n9=>by
    obtain⟨m',hm,w9⟩:=hN σ9 H9 n9;refine⟨m',hm,i+1,σ9,H9,I9.fQ,T.keep _ _ _ st7 fun b hb o e=>(I9.pin (b,o) (qAt _ (qAt _ (gD hb e)))).1,fun b hb=>?_,w9⟩;obtain⟨o,e,d⟩:=T.obj _ _ st7 b hb;exact(I9.pin (b,o) (qAt _ (qAt _ (gD hb e)))).2.1
   refine cA (hg _ _ _ _ s7 σ5 H7 x u _ I7' r7 (step x H7 y7)) fun _ s8 z9=>?_;obtain⟨σ8,H8,I8,q8⟩:=z9;refine cA (ht _ _ _ _ s8 σ8 H8 _ I8 q8) fun b s9 z9=>?_;obtain⟨H9,I9,q9⟩:=z9;cases b with
   | false =>
    rw[if_neg qAn];exact qNg I9 (by rw[if_neg qAn] at q9;exact q9)
   | true =>
    rw[if_pos rfl] at q9|-;refine cA (he _ _ _ _ s9 σ8 H9 _ I9 q9) fun y s10 z9=>?_;obtain⟨vy,H10,I10,r10,xs,hD,hl,q10⟩:=z9;refine cA (mQ _ s10 σ8 H10 (.ref s2.heap.objs.size) [vy] (.ref s2.heap.objs.size) [y] (fun _ H'=>N σ8 H') I10 rfl (.cons r10 .nil) ⟨_,xs,vy,rfl,rfl,hD,hl,q10⟩) fun _ s11 z9=>?_;obtain⟨_,H11,I11,_,q11⟩:=z9;exact qNg I11 q11
 refine codeAny_compStart_list loop (T.self _ 0 _ _ _ st4 loop)
theorem De(hN:X.N.Nodup)(hx1:X.N[i]?=some x)(hx2:Loc X.env.scope x)
  (hsw:qJq (.ListComp elt [⟨target,iter,ifs,0⟩] sc pos) (some (.Name x pos')) spos.line X.env=pure true) (B:Bh X NB pick sc cl y0) (hc:X.calm=true) (hi:PI X target iter wi)
  (hg:∀s₃ H₃ fp,PG (kE X NB sc cl y0 s₃ H₃ fp) target g) (ht:∀s₃ H₃ fp,vJ (kE X NB sc cl y0 s₃ H₃ fp) ifs c) (he:∀s₃ H₃ fp,PE (kE X NB sc cl y0 s₃ H₃ fp) elt te)
  (hs:∀x,qFh iter X.env x=pure x:=by intro _;rfl) (hfn:X.fn x=true\/X.env.scope.names.lookup x=some .local:=by first|exact .inl rfl | exact .inr rfl | assumption) :
  PS X (.Assign [.Name x pos'] (.ListComp elt [⟨target,iter,ifs,0⟩] sc pos) spos) (fun D σ H=>vI wi pick g c te σ H fun l H'=>D.nx (σ.set i (some (.ref l))) H'):=by
 intro pins s σ H D I h;rw[exec_Assign_Name_used _ _ _ _ hsw];refine qAd (qGc (qAd ?_));show qBs _ _ (do let _ <- qJs (.ListComp elt [⟨target,iter,ifs,0⟩] sc pos) sc X.env _ (qOp []) false (eval iter X.env) (some (qJu (.Name x pos') X.env))) _ _ s;refine qAd (cA (Bj (use:=some (qJu (.Name x pos') X.env)) (QV:=fun _ s'=>SP X pins D .next s') B hc hi hg ht he hs I h fun l C s' H' I' q c0 c1 c2 c3 c4 hn=>?_) fun _ s' hq=>qAm (qAm hq));obtain⟨m,hm⟩:=hn;show qBs _ _ (qJu (.Name x pos') X.env (.ref l)) _ _ _;refine wpAny_assign_Name (mJ (v:=.ref l) I' hN hx1 hx2 rfl (fun s'' I'' z9=>?_) hfn);obtain⟨a,hsb,ha⟩:=z9;have ne:C≠a:=by
  rcases ha with e | e
  .rw[e];exact c1
  .exact(c3 x a e).symm
 refine⟨m,hm.sameBut hsb ne,fun hh hsb2=>?_⟩;exact⟨_,H',I''.turned (t':=s''.toks) (fun b o hb e=>(hsb2.2 b hb).trans e) c0 c1 (.inr c2) c3 c4,q⟩
end
end L2
namespace HT
open PySem PyProof.Rows
section
open PySem.SeqAt
open PySem.AutoSeq1 (wpAny_loadPart')
open PySem.MeetsSeq PySem.MeetsSeq2 PySem.MeetsSeq3
end
section
variable {prog:qBl}{w:qCr}{A:qDf}{E:qAi->qAp->Prop}{s:qAp}
end
end HT
namespace L2
open PySem PySem.Spec PyProof.Rows
section
variable {X:Cx}
end
section
variable {X:Cx}
end
end L2
namespace PySem
section
variable {prog:qBl}{w:qCr}{K:Type} [DecidableEq K] {knd:HeapKind prog w K}{A:qDf}{E:qAi->qAp->Prop}{s:qAp}
end
section
variable {prog:qBl}{w:qCr}{K:Type} [DecidableEq K] {knd:KeyKind prog w K}{A:qDf}{E:qAi->qAp->Prop}{s:qAp}
end
end PySem
namespace L2
open PySem PySem.Spec PyProof.Rows
section
variable {X:Cx}
end
section
variable {X:Cx}
end
section
variable {X:Cx}
end
end L2
set_option maxHeartbeats 4000000
namespace L2
open PySem PySem.Spec PyProof.Rows
section
variable {X:Cx}{pins:List (Addr×Obj)}{σ:St}{H:Hp}{s:qAp}
theorem Dg(F:gY X.prog X.w X.K X.mg X.base cP k f fd ps sp)(hr:dE (k+1) X.A)(hb:Binds X.K fd ps [])(I:Inv X pins σ H s)(r:Vals vs us)(h:sp vs H Q E0):
  qBs (qCb X.prog X.w) X.A.in1 (call (.ref f) us) (EP X pins σ Q) (fun _ _=>False) s:=by
 have hl:(us++[]).length=ps.length:=by rw[qCl,<- r.length];exact F.len _ _ _ _ h
 have b:=hb s us I.qL hl;rw[qCl] at b;refine qGg (qFy (F.run X.A.in1 X.stack s H ⟨us,[]⟩ us vs Q E0 hr.in1 I.ER.in1 b r h) fun r s' hq=>?_);cases r with
 | error e=>exact hq.elim
 | ok fl =>
  cases fl with
  | ret u=>exact I.after hq
  | next=>exact False.elim hq
  | brk=>exact False.elim hq
  | cont=>exact False.elim hq
theorem Fn(I:Inv X pins σ H s)(fS:gX X pins H S)(fI:gX X pins H Ia)(eS:s.heap.get? S=some oS)(eI:s.heap.get? Ia=some oI)(dS:∀v,oS.data≠.cell v)(dI:∀v,oI.data≠.cell v):Inv X (pins++[(S,oS),(Ia,oI)]) σ H s :=
 I.sZ fun p hp=>by
  rcases List.mem_append.mp hp with z | z
  .exact I.pin p (qAt _ z)
  .rcases List.mem_cons.mp z with rfl | z
   .exact⟨eS,fS.1,fS.2.1,fS.2.2.1,dS⟩
   .rw[List.mem_singleton.mp z];exact⟨eI,fI.1,fI.2.1,fI.2.2.1,dI⟩
theorem Fo(kf:Nat->Int)(F:gY X.prog X.w X.K X.mg X.base cP k f fd ps sp)(hr:dE (k+1) X.A)(hb:Binds X.K fd ps [])
  (fS:gX X pins H S) (fI:gX X pins H Ia) (hSI:S≠Ia) (hq:aV X.K H l xs) (key:∀i v,xs[i]?=some v->sp [v] H (fun r H'=>r = .int (kf i)/\H'=H) E0){R:qOr->qAp->Prop}
  (hR:∀i x u s',xs[i]?=some x->RelV x u->(∀j,j<xs.length->kf i<=kf j/\(j<i->kf i<kf j))->Inv X pins σ H s'->R (.ok (.ret u)) s') :
  ∀(r j i:Nat) (s:qAp) (x:V) (vb:qAi) (tb:Tok) (c:Nat) (oI:Obj),xs.length-(j+1)=r->j+1<=xs.length->Inv X (pins++[(S,qDq "list" #[vb,.int (kf i) tb] c),(Ia,oI)]) σ H s->s.heap.IsListIter Ia l (j+1) ->
   xs[i]?=some x->RelV x vb->i<=j->(∀j',j'<=j->kf i<=kf j'/\(j'<i->kf i<kf j')) ->
   qHb (qCb X.prog X.w) X.A (.builtin "min.loop" ⟨[.ref Ia,.ref f,.ref S],[]⟩) R s:=by
 have hname:(toString "min" ++ toString ".loop":String)="min.loop":=by decide
 intro r;induction r with
 | zero =>
  intro j i s x vb tb c oI hr' hj I hit hx hxb hij hbest;have hin:j+1=xs.length:=by lia
  obtain⟨its,rv,p,hz⟩:=I.list hq;have hlen:=rv.length;have nS:=(I.pin (S,qDq "list" #[vb,.int (kf i) tb] c) (qAt _ (qAt _ (.head _)))).1;have I0:=I.fQ;obtain⟨a0,a1,a2,a3,a4,a5⟩:=fI;obtain⟨b0,b1,b2,b3,b4,b5⟩:=fS;refine qHa qHf ?_;rw[Around.under_plainId qDv _];show qBs _ X.A.in1 (seqItems? (.ref S) >>= _) _ _ _;refine qAd (wpAny_seqItems nS rfl ?_);show qBs _ X.A.in1 (tryCatch (qKn (.ref Ia)) _ >>= _) _ _ _;refine qAd (qGj (wpAny_pyNext_list_end hr.in1.hd hit p.isList (by simp;lia) fun h' eb=>?_));have I1:Inv X pins σ H { s with heap:=h' }:=I0.turned (t':=s.toks) (fun b o hb e=>eb b o hb e) a0 a1 a3 a4 a5;have hS':h'.get? S=some (qDq "list" #[vb,.int (kf i) tb] c):=eb S _ hSI nS;have s1:=Heap.SameBut.update h' S (Obj.mapSeq fun _=>(#[]:Array qAi));show qBs _ X.A.in1 (updateSeq S (fun _=>#[]) >>= _) _ _ _;refine qAd ?_;refine wpAny_updateSeq hS' rfl (qAd (qKy (qAm ?_)));exact hR i x vb _ hx hxb (fun j' hj'=>hbest j' (by lia)) (I1.turned (fun b o hb e=>(s1.2 b hb).trans e) b0 b1 b3 b4 b5)
 | succ r ih =>
  intro j i s x vb tb c oI hr' hj I hit hx hxb hij hbest;have hlt:j+1<xs.length:=by lia
  obtain⟨its,rv,p,hz⟩:=I.list hq;have hlen:=rv.length;obtain⟨y,hy⟩:∃y,xs[j+1]?=some y:=⟨_,qAc hlt⟩;obtain⟨v,hv,rv'⟩:=rv.get hy;have nS:=(I.pin (S,qDq "list" #[vb,.int (kf i) tb] c) (qAt _ (qAt _ (.head _)))).1;have I0:=I.fQ;have fI':=fI;have fS':=fS;obtain⟨a0,a1,a2,a3,a4,a5⟩:=fI;obtain⟨b0,b1,b2,b3,b4,b5⟩:=fS;refine qHa qHf ?_;rw[Around.under_plainId qDv _];show qBs _ X.A.in1 (seqItems? (.ref S) >>= _) _ _ _;refine qAd (wpAny_seqItems nS rfl ?_);show qBs _ X.A.in1 (tryCatch (qKn (.ref Ia)) _ >>= _) _ _ _;refine qAd (qGj (wpAny_pyNext_list_item hit p.isList (x:=v) (by simpa using hv) fun h' st' sb=>?_));have I1:Inv X pins σ H { s with heap:=h' }:=I0.turned (t':=s.toks) (fun b o hb e=>(sb.2 b hb).trans e) a0 a1 a3 a4 a5;obtain⟨oI',eI',ec,ed⟩:=id st';have eS':h'.get? S=some (qDq "list" #[vb,.int (kf i) tb] c):=(sb.2 S hSI).trans nS;have I2:=Fn I1 fS' fI' eS' eI' (fun v z=>nomatch z) (fun v z=>by rw[ed] at z;cases z);show qBs _ X.A.in1 (tryCatch (qGz [v] (call (.ref f) [v])) _ >>= _) _ _ _;refine qAd (qGj (qCm (qFa (Dg F hr hb I2 (.cons rv' .nil) (key (j+1) y hy)) (fun x' s2 he=>?_) fun _ _ hF=>hF.elim)));obtain⟨kv,H',I3,rk,rfl,rfl⟩:=he;obtain⟨t2,rfl⟩:=(show ∃t,x'=Value.int (kf (j+1)) t from rk);have nS2:=(I3.pin (S,qDq "list" #[vb,.int (kf i) tb] c) (qAt _ (qAt _ (.head _)))).1;have nI2:=(I3.pin (Ia,oI') (qAt _ (qAt _ (.tail _ (.head _))))).1;have hit2:s2.heap.IsListIter Ia l (j+1+1):=⟨oI',nI2,ec,ed⟩;show qBs _ X.A.in1 (tryCatch (qGz [v,.int (kf (j+1)) t2] (richCompare .Lt (.int (kf (j+1)) t2) (.int (kf i) tb) >>= _)) _ >>= _) _ _ _;refine qAd (qGj (qCm (qAd (CmpOf.ints_lt (prog:=X.prog) (w:=X.w) (A:=X.A.in1) (P:=fun i v=>∃t,v = .int (kf i) t) kf (fun i v h=>h) (j+1) i _ _ _ _ _ ⟨t2,rfl⟩ ⟨tb,rfl⟩ ?_))));refine qAd (qCm (qCw ?_));refine qAd (qKy (qAm ?_));by_cases hlt2:kf (j+1)<kf i
  .have s1:=Heap.SameBut.update s2.heap S (Obj.mapSeq fun _=>#[v,.int (kf (j+1)) t2]);obtain⟨c2,hc2⟩:∃c2,(s2.heap.update S (Obj.mapSeq fun _=>#[v,.int (kf (j+1)) t2])).get? S=some (qDq "list" #[v,.int (kf (j+1)) t2] c2):=⟨_,qHc nS2 fun _=>#[v,.int (kf (j+1)) t2]⟩;simp only[hlt2,decide_true,if_true];refine qAd ?_;refine wpAny_updateSeq nS2 rfl (qAd (qKy ?_));rw[hname];have eI4:(s2.heap.update S (Obj.mapSeq fun _=>#[v,.int (kf (j+1)) t2])).get? Ia=some oI':=(s1.2 Ia hSI.symm).trans nI2;refine qAm ⟨qJr qDv _,ih (j+1) (j+1) _ y v t2 c2 oI' (by lia) hlt (Fn (I3.fQ.turned (fun b o hb e=>(s1.2 b hb).trans e) b0 b1 b3 b4 b5) fS' fI' hc2 eI4 (fun v z=>nomatch z) (fun v z=>by rw[ed] at z;cases z)) ⟨oI',eI4,ec,ed⟩ hy rv' (qAl _) fun j' hj'=>?_⟩;by_cases e:j'=j+1
   .subst e;exact⟨by lia,fun _=>by lia⟩
   .have q1:=(hbest j' (by lia)).1;exact⟨by lia,fun _=>by lia⟩
  .simp only[hlt2,decide_false,qFr,if_false];refine qAd (qKy ?_);rw[hname];refine qAm ⟨qJr qDv _,ih (j+1) i _ x vb tb c oI' (by lia) hlt (I3.tok _) hit2 hx hxb (by lia) fun j' hj'=>?_⟩;by_cases e:j'=j+1
   .subst e;exact⟨by lia,fun _=>by lia⟩
   .exact hbest j' (by lia)
theorem Fp(kf:Nat->Int)(F:gY X.prog X.w X.K X.mg X.base cP k f fd ps sp)(hr:dE (k+1) X.A)(hb:Binds X.K fd ps [])(I:Inv X pins σ H s)
  (hq:aV X.K H l xs) (h0:0<xs.length) (key:∀i v,xs[i]?=some v->sp [v] H (fun r H'=>r = .int (kf i)/\H'=H) E0)
  (hQ:∀i x,xs[i]?=some x->(∀j,j<xs.length->kf i<=kf j/\(j<i->kf i<kf j))->Q x H) :
  qBs (qCb X.prog X.w) X.A (call (.builtin "min") [.ref l] [(Str.ofString "key",.ref f)]) (EP X pins σ Q) X.xe s:=by
 have hname:(toString "min" ++ toString ".loop":String)="min.loop":=by decide
 obtain⟨its,rv,p,hz⟩:=I.list hq;have hlen:=rv.length;obtain⟨y,hy⟩:∃y,xs[0]?=some y:=⟨_,qAc h0⟩;obtain⟨v,hv,rv'⟩:=rv.get hy;refine kmk_tree PySem.F.kind_min PySem.F.plain_min PySem.F.entry_min (kmk_min_key _ _) ?_;show qBs _ X.A.in1 (Builtin.Builtins.bindParams "min" ["key","default"] 0 ⟨[],[(Str.ofString "key",.ref f)]⟩ >>= _) _ _ s;refine qAd (qFd (show Builtin.Builtins.bindParams "min" ["key","default"] 0 ⟨[],[(Str.ofString "key",.ref f)]⟩=pure [some (.ref f),none] from rfl) ?_);refine qAd (qAm ?_);refine qAd (qEa p.isList ?_);refine qAd (wpAny_newList ?_ (qBf _));rw[hname];have hS:(s.heap.push { cls:=.type "list_iterator",data:=.fields #[.ref l,.int 0 0] }).objs.size=s.heap.objs.size+1:=qLu ..;have hSI:(s.heap.push { cls:=.type "list_iterator",data:=.fields #[.ref l,.int 0 0] }).objs.size≠s.heap.objs.size:=by rw[hS];exact qOi (qFi _)
 have gI:((s.heap.push { cls:=.type "list_iterator",data:=.fields #[.ref l,.int 0 0] }).push (qDq "list" #[] 0)).get? s.heap.objs.size=some { cls:=.type "list_iterator",data:=.fields #[.ref l,.int 0 0] }:=qAk _ (qAz _ rfl);have gS:((s.heap.push { cls:=.type "list_iterator",data:=.fields #[.ref l,.int 0 0] }).push (qDq "list" #[] 0)).get? (s.heap.push { cls:=.type "list_iterator",data:=.fields #[.ref l,.int 0 0] }).objs.size=some (qDq "list" #[] 0):=qAz _ rfl;have I1:Inv X pins σ H { s with heap:=(s.heap.push { cls:=.type "list_iterator",data:=.fields #[.ref l,.int 0 0] }).push (qDq "list" #[] 0) }:=I.kept (t':=s.toks) fun b u e=>qAk _ (qAk _ e);have fI:gX X pins H s.heap.objs.size:=I.qP (qAl _) (I.cK.fresh (qAl _));have hSle:s.heap.objs.size<=(s.heap.push { cls:=.type "list_iterator",data:=.fields #[.ref l,.int 0 0] }).objs.size:=by rw[hS];exact qGn _
 have fS:gX X pins H (s.heap.push { cls:=.type "list_iterator",data:=.fields #[.ref l,.int 0 0] }).objs.size:=I.qP hSle (I.cK.fresh hSle);refine qAm ⟨qJr qDv _,?_⟩;show qHb (qCb X.prog X.w) X.A (.builtin "min.loop" ⟨[.ref s.heap.objs.size,.ref f,.ref (s.heap.push { cls:=.type "list_iterator",data:=.fields #[.ref l,.int 0 0] }).objs.size],[]⟩) _ { s with heap:=(s.heap.push { cls:=.type "list_iterator",data:=.fields #[.ref l,.int 0 0] }).push (qDq "list" #[] 0) };generalize (s.heap.push { cls:=.type "list_iterator",data:=.fields #[.ref l,.int 0 0] }).objs.size=S at hSI gS fS|-;generalize s.heap.objs.size=Ia at hSI gI fI|-;generalize (s.heap.push { cls:=.type "list_iterator",data:=.fields #[.ref l,.int 0 0] }).push (qDq "list" #[] 0)=hp at gI gS I1|-;obtain⟨its1,rv1,p1,_⟩:=I1.list hq;obtain⟨v1,hv1,rv1'⟩:=rv1.get hy;obtain⟨a0,a1,a2,a3,a4,a5⟩:=id fI;obtain⟨b0,b1,b2,b3,b4,b5⟩:=id fS;refine qHa qHf ?_;rw[Around.under_plainId qDv _];show qBs _ X.A.in1 (seqItems? (.ref S) >>= _) _ _ _;refine qAd (wpAny_seqItems gS rfl ?_);show qBs _ X.A.in1 (tryCatch (qKn (.ref Ia)) _ >>= _) _ _ _;refine qAd (qGj (wpAny_pyNext_list_item (i:=0) ⟨_,gI,rfl,rfl⟩ p1.isList (x:=v1) (by simpa using hv1) fun h' st' sb=>?_));have I2:Inv X pins σ H { s with heap:=h' }:=I1.turned (t':=s.toks) (fun b o hb e=>(sb.2 b hb).trans e) a0 a1 a3 a4 a5;obtain⟨oI',eI',ec,ed⟩:=id st';have eS':h'.get? S=some (qDq "list" #[] 0):=(sb.2 S hSI).trans gS;have I3:=Fn I2 fS fI eS' eI' (fun v z=>nomatch z) (fun v z=>by rw[ed] at z;cases z);show qBs _ X.A.in1 (tryCatch (qGz [v1] (call (.ref f) [v1])) _ >>= _) _ _ _;refine qAd (qGj (qCm (qFa (Dg F hr hb I3 (.cons rv1' .nil) (key 0 y hy)) (fun x' s2 he=>?_) fun _ _ hF=>hF.elim)));obtain⟨kv,H',I4,rk,rfl,rfl⟩:=he;obtain⟨t2,rfl⟩:=(show ∃t,x'=Value.int (kf 0) t from rk);have nS2:=(I4.pin (S,qDq "list" #[] 0) (qAt _ (qAt _ (.head _)))).1;have nI2:=(I4.pin (Ia,oI') (qAt _ (qAt _ (.tail _ (.head _))))).1;have s1:=Heap.SameBut.update s2.heap S (Obj.mapSeq fun _=>#[v1,.int (kf 0) t2]);obtain⟨c2,hc2⟩:∃c2,(s2.heap.update S (Obj.mapSeq fun _=>#[v1,.int (kf 0) t2])).get? S=some (qDq "list" #[v1,.int (kf 0) t2] c2):=⟨_,qHc nS2 fun _=>#[v1,.int (kf 0) t2]⟩;have eI4:(s2.heap.update S (Obj.mapSeq fun _=>#[v1,.int (kf 0) t2])).get? Ia=some oI':=(s1.2 Ia hSI.symm).trans nI2;show qBs _ X.A.in1 (updateSeq S (fun _=>#[v1,.int (kf 0) t2]) >>= _) _ _ _;refine qAd ?_;refine wpAny_updateSeq nS2 rfl ?_;rw[hname];refine qAm ⟨qJr qDv _,Fo kf F hr hb fS fI hSI hq key (fun i x u s' hx ru hb' I'=>⟨x,H',I',ru,hQ i x hx hb'⟩) _ 0 0 _ y v1 t2 c2 oI' rfl h0 (Fn (I4.fQ.turned (t':=s2.toks) (fun b o hb e=>(s1.2 b hb).trans e) b0 b1 b3 b4 b5) fS fI hc2 eI4 (fun v z=>nomatch z) (fun v z=>by rw[ed] at z;cases z)) ⟨oI',eI4,ec,ed⟩ hy rv1' (qAl _) fun j' hj'=>?_⟩;have e:j'=0:=by lia
 subst e;exact⟨qIo _,fun h=>absurd h (qEg _)⟩
def Fq(K:qAb)(sp:Sp)(t:TA):TE:=fun σ H Q=>t σ H fun vs H1=>∃(l:Addr) (xs:List V) (kf:Nat->Int),vs=[.ref l]/\aV K H1 l xs/\0<xs.length/\(∀i v,xs[i]?=some v->sp [v] H1 (fun r H'=>r = .int (kf i)/\H'=H1) E0) /\
 ∀i x,xs[i]?=some x->(∀j,j<xs.length->kf i<=kf j/\(j<i->kf i<kf j))->Q x H1
theorem Bk(D:Df X.prog X.w X.K X.mg X.base cP k y ps sp f fd)(hr:dE j X.A)(hj:k+1<=j)(hg:Gl X "min")(hm:X.mg "min"=none)(hgk:PE X (.Name y p2) (tC (.ref f)))(ha:PA X [e] t)
  (he:qFb pos (qBx [e] X.env)=(false,eval e X.env)::qFb pos (qBx [] X.env):=by rfl) (hpl:(qFb pos (qBx [e] X.env)).any (·.1)=false:=by rfl) :
  PE X (.Call (.Name "min" p) [e] [⟨some "key",.Name y p2,kp⟩] pos) (Fq X.K sp t):=by
 intro pins s σ H Q I h;refine qEq (jK I hg hm IH ?_ #[1] #[1]);refine callWith_kw (cA (ha pos pins s σ H _ I h) fun us s1 z9=>?_) he hpl;obtain⟨vs,H1,I1,r1,q1⟩:=z9;refine kws_cons (cA (hgk pins s1 σ H1 (fun v H'=>v = .ref f/\H'=H1) I1 ⟨rfl,rfl⟩) fun u s2 ⟨v,H2,I2,r2,e1,e2⟩=>kws_nil ?_);subst e1 e2;obtain rfl:u=Value.ref f:=r2;obtain⟨l,xs,kf,rfl,hq,h0,key,hQ⟩:=q1;obtain⟨u1,rfl,ru⟩:=vals1 r1;cases ru;exact Fp kf D.ok (hr.mono hj) D.bd I2 hq h0 key hQ
end
end L2
set_option maxHeartbeats 4000000
namespace PySem.W
open PySem PySem.Calls PyProof.Rows
theorem KasT.mU{α:Type}{n:Nat}{P:α->Prop}{lt lt':Nat->Nat->Bool}(h:∀i j,i<n->j<n->lt i j=lt' i j):∀{t:KasT α},t.Ok n P->t.run lt=t.run lt'
 | .ret a,_=>rfl
 | .ask i j k,o=>by
  show(k (lt i j)).run lt=(k (lt' i j)).run lt';rw[h i j o.1 o.2.1];exact KasT.mU h (o.2.2 _)
theorem KasT.yU:∀{t:KasT α},t.Ok n P->P (t.run lt)
 | .ret a,h=>h
 | .ask i j k,o=>show P ((k (lt i j)).run lt) from KasT.yU (t:=k (lt i j)) (o.2.2 (lt i j))
namespace S6
def mV(x:Nat):List Nat->List (List Nat)
 | []=>[[x]]
 | y::r=>(x::y::r)::(mV x r).map (y :: ·)
def tU:Nat->List (List Nat)
 | 0=>[[]]
 | n+1=>(tU n).flatMap (mV n)
theorem pK(x:Nat):∀(a b:List Nat),a++x::b∈mV x (a++b)
 | [],[]=>by simp[mV]
 | [],y::b=>by simp[mV]
 | y::a,b=>by
  show y::(a++x::b)∈(x::y::(a++b))::(mV x (a++b)).map (y :: ·);exact qAs _ (List.mem_map.mpr ⟨_,pK x a b,rfl⟩)
theorem vX:∀(n:Nat) (r:List Nat),r.Perm (qAh n)->r∈tU n
 | 0,r,h=>by
  have:r=[]:=List.perm_nil.mp h;simp[this,tU]
 | n+1,r,h=>by
  have hn:n∈r:=h.mem_iff.mpr (List.mem_range.mpr (qFi n));obtain⟨a,b,rfl⟩:=List.append_of_mem hn;have h2:(a++b).Perm (qAh n):=by
   rw[qCt] at h;have z:(n::(a++b)).Perm (n::qAh n):=(List.perm_middle.symm.trans h).trans (List.perm_append_comm (l₁:=qAh n) (l₂:=[n]));exact(List.perm_cons n).mp z
  exact List.mem_flatMap.mpr ⟨_,vX n _ h2,pK n a b⟩
def rk(n:Nat)(code:Nat->Nat)(i:Nat):Nat:=((qAh n).filter fun k=>decide (code k<code i)).length
theorem iG:∀{l:List Nat},(∀x∈l,p x=true->q x=true)->(∃x∈l,p x=false/\q x=true)->(l.filter p).length<(l.filter q).length
 | [],_,h=>by obtain⟨_,h,_⟩:=h;cases h
 | y::r,hi,he=>by
  have le:∀{l:List Nat},(∀x∈l,p x=true->q x=true)->(l.filter p).length<=(l.filter q).length:=by
   intro l;induction l with
   | nil=>intro _;exact qAl _
   | cons z l ih =>
    intro h;have i:=ih fun x hx=>h x (qAs _ hx);have hz:=h z (by simp);cases ep:p z with
    | true=>rw[qCg ep,qCg (hz ep),qAw,qAw];lia
    | false =>
     rw[qCv (by rw[ep];decide)];cases eq:q z with
     | true=>rw[qCg eq,qAw];lia
     | false=>rw[qCv (by rw[eq];decide)];exact i
  have hr:=fun x hx=>hi x (qAs _ hx);obtain⟨x,hx,e1,e2⟩:=he;rcases List.mem_cons.mp hx with rfl | hx
  .rw[qCv (by rw[e1];decide),qCg e2,qAw];have:=le hr;lia
  .have i:=iG hr ⟨x,hx,e1,e2⟩;have hy:=hi y (by simp);cases ep:p y with
   | true=>rw[qCg ep,qCg (hy ep),qAw,qAw];lia
   | false =>
    rw[qCv (by rw[ep];decide)];cases eq:q y with
    | true=>rw[qCg eq,qAw];lia
    | false=>rw[qCv (by rw[eq];decide)];exact i
theorem oO{n:Nat}{code:Nat->Nat}{i j:Nat}(hi:i<n)(h:code i<code j):rk n code i<rk n code j :=
 iG (fun x _ z=>decide_eq_true (qFn (of_decide_eq_true z) h)) ⟨i,List.mem_range.mpr hi,decide_eq_false (qEg _),decide_eq_true h⟩
theorem Nl{n:Nat}{code:Nat->Nat}{i:Nat}(hi:i<n):rk n code i<n:=by
 have z:=iG (p:=fun k=>decide (code k<code i)) (q:=fun _=>true) (l:=qAh n) (fun _ _ _=>rfl) ⟨i,List.mem_range.mpr hi,decide_eq_false (qEg _),rfl⟩;rw[show(qAh n).filter (fun _=>true)=qAh n from List.filter_eq_self.mpr fun _ _=>rfl,qBg] at z;exact z
theorem Dh{n:Nat}{code:Nat->Nat}(inj:∀i j,i<n->j<n->code i=code j->i=j){i j:Nat}(hi:i<n)(hj:j<n):(rk n code i<rk n code j)↔code i<code j:=by
 refine⟨fun h=>?_,oO hi⟩;rcases qHg (code i) (code j) with z | z | z
 .exact z
 .have:=inj i j hi hj z;subst this;lia
 .have:=oO hj z;lia
theorem sE:∀(n:Nat) (l:List Nat),l.Nodup->(∀x∈l,x<n)->l.length<=n
 | 0,[],_,_=>qAl _
 | 0,x::r,_,h=>absurd (h x qBn) (qMz _)
 | n+1,l,d,h=>by
  have ih:=sE n (l.erase n) (d.erase n) fun x hx=>by
   have z:=(d.mem_erase_iff).mp hx;have:=h x z.2;have z1:=z.1;lia
  rw[List.length_erase] at ih;split at ih <;> lia
theorem pL:∀(n:Nat) (l:List Nat),l.Nodup->(∀x∈l,x<n)->l.length=n->l.Perm (qAh n)
 | 0,l,_,_,e=>by
  obtain rfl:=qGf e;exact List.Perm.refl _
 | n+1,l,d,h,e=>by
  have hn:n∈l:=by
   refine qDb fun q=>?_;have:=sE n l d fun x hx=>by
    have y:=h x hx;have:x≠n:=fun z=>q (z▸hx);lia
   lia
  have ih:=pL n (l.erase n) (d.erase n) (fun x hx=>by
   have z:=(d.mem_erase_iff).mp hx;have:=h x z.2;have z1:=z.1;lia) (by rw[qHd hn];lia)
  rw[qCt];exact(List.perm_cons_erase hn).trans ((ih.cons n).trans (List.perm_append_singleton n (qAh n)).symm)
def mW(n:Nat)(r:List Nat):Bool:=decide (((kas_sort n).run fun i j=>decide (r.getD i 0<r.getD j 0)).toList.map (fun i=>r.getD i 0)=qAh n)
theorem CB:(tU 1).all (mW 1)=true:=by decide +kernel
theorem Qs:(tU 2).all (mW 2)=true:=by decide +kernel
theorem Sh:(tU 3).all (mW 3)=true:=by decide +kernel
theorem Nm:(tU 4).all (mW 4)=true:=by decide +kernel
theorem Si:(tU 5).all (mW 5)=true:=by decide +kernel
theorem Pz:(tU 6).all (mW 6)=true:=by decide +kernel
theorem IQ(h0:0<n)(h:n<=6){r:List Nat}(hr:r.Perm (qAh n)):((kas_sort n).run fun i j=>decide (r.getD i 0<r.getD j 0)).toList.map (fun i=>r.getD i 0)=qAh n:=by
 have m:=vX n r hr;have c:n=1\/n=2\/n=3\/n=4\/n=5\/n=6:=by lia
 rcases c with rfl | rfl | rfl | rfl | rfl | rfl
 .exact of_decide_eq_true (List.all_eq_true.mp CB r m)
 .exact of_decide_eq_true (List.all_eq_true.mp Qs r m)
 .exact of_decide_eq_true (List.all_eq_true.mp Sh r m)
 .exact of_decide_eq_true (List.all_eq_true.mp Nm r m)
 .exact of_decide_eq_true (List.all_eq_true.mp Si r m)
 .exact of_decide_eq_true (List.all_eq_true.mp Pz r m)
theorem kS{n:Nat}(h0:0<n)(h6:n<=6){code:Nat->Nat}{lt:Nat->Nat->Bool}(hlt:∀i j,i<n->j<n->lt i j=decide (code i<code j))(inj:∀i j,i<n->j<n->code i=code j->i=j):(((kas_sort n).run lt).toList.map code).Pairwise (· < ·):=by
 have gd:∀i,i<n->((qAh n).map (rk n code)).getD i 0=rk n code i:=fun i hi=>by
  rw[qAj,qAf,qDx hi];rfl
 have e:(kas_sort n).run lt=(kas_sort n).run fun i j=>decide (((qAh n).map (rk n code)).getD i 0<((qAh n).map (rk n code)).getD j 0):=by
  refine KasT.mU (n:=n) (P:=iF n) (fun i j hi hj=>?_) (lO h0);rw[hlt i j hi hj,gd i hi,gd j hj];exact decide_eq_decide.mpr (Dh inj hi hj).symm
 have pm:iF n ((kas_sort n).run lt):=KasT.yU (lO h0);have hr:((qAh n).map (rk n code)).Perm (qAh n):=by
  refine pL _ _ ?_ ?_ (by rw[qAa,qBg])
  .refine List.pairwise_map.mpr ?_;refine(qJk (n:=n)).imp_of_mem fun {a b} ha hb ne z=>?_;have ha:=List.mem_range.mp ha;have hb:=List.mem_range.mp hb;rcases qHg (code a) (code b) with q | q | q
   .have:=oO (code:=code) ha q;lia
   .exact ne (inj a b ha hb q)
   .have:=oO (code:=code) hb q;lia
  .intro x hx;obtain⟨i,hi,rfl⟩:=List.mem_map.mp hx;exact Nl (List.mem_range.mp hi)
 have z:=IQ h0 h6 hr;rw[<- e] at z;have lt_:∀i∈((kas_sort n).run lt).toList,i<n:=fun i hi=>List.mem_range.mp (pm.mem_iff.mp hi);have z2:((kas_sort n).run lt).toList.map (rk n code)=qAh n:=by
  rw[<- z];exact qDa fun i hi=>(gd i (lt_ i hi)).symm
 have pw:(((kas_sort n).run lt).toList.map (rk n code)).Pairwise (· < ·):=by rw[z2];exact List.pairwise_lt_range
 rw[qMk] at pw|-;exact pw.imp_of_mem fun {a b} ha hb q=>(Dh inj (lt_ a ha) (lt_ b hb)).mp q
end S6
end PySem.W
namespace L2
open PySem PySem.Spec PyProof.Rows PySem.W
section
variable {X:Cx}
theorem qW:eZ X (.builtin "sorted") (fun xs H Q=>∃(p:Addr) (as:List Addr) (c:Addr->Nat),xs=[.ref p]/\aV X.K H p (as.map V.ref)/\(∀a∈as,Bf H a)/\as.length<=6/\(∀a∈as,∀b∈as,HT.lexLt (gB H a) (gB H b)=decide (c a<c b))/\(as.map c).Nodup /\
  ∀(l:Addr) (bs:List Addr),H l=none->bs.Perm as->(bs.map c).Pairwise (· < ·)->Q (.ref l) (upd H l (.lst (bs.map V.ref)))):=fun pins s σ H xs us Q I r h=>by
 obtain⟨p,as,c,e1,e2,e3,e4,e5,e6,q⟩:=h;refine kI pins s σ H xs us Q I r ⟨p,as,e1,e2,e3,by lia,fun l bs hl hp hb=>q l bs hl hp ?_⟩;rcases qDt as.length with z | h0
 .have:as=[]:=qGf z;subst this;rw[List.perm_nil.mp hp];exact List.Pairwise.nil
 have at_:∀i,i<as.length->as.getD i 0∈as:=fun i hi=>by
  rw[qAj,qAc hi];exact qDm hi
 have z:=S6.kS h0 e4 (code:=fun i=>c (as.getD i 0)) (fun i j hi hj=>e5 _ (at_ i hi) _ (at_ j hj)) fun i j hi hj e=>by
  refine(qIz (i:=i) (j:=j) (by rw[qAa];exact hi) e6).mp ?_;rw[qAf,qAf,qAc hi,qAc hj];have e':c (as.getD i 0)=c (as.getD j 0):=e;rw[qAj,qAj,qAc hi,qAc hj] at e';exact congrArg some e'
 rw[hb,qBo];exact z
end
end L2
set_option maxHeartbeats 4000000
namespace L2
open PySem PySem.Spec PyProof.Rows
section
variable {prog:qBl}{w:qCr}{A:qDf}{E:qAi->qAp->Prop}{s:qAp}{d it:Addr}{o:Obj}{es:Array DictEntry}{ep:Nat}
theorem Di(hd:(d == qFg)=false)(ho:s.heap.get? d=some o)(hc:o.ExactDict)(hdat:o.data = .dict es ep)
  (hQ:Q (.ref s.heap.objs.size) { s with heap:=s.heap.push { cls:=.type "dict_keyiterator",data:=.fields #[.ref d,.int 0 0,.int es.size 0,.int ep 0] } }) :
  qBs (qCb prog w) A (pyIter (.ref d)) Q E s:=by
 have hT:s.TypeIs (.ref d) "dict":=⟨o,ho,hc.1⟩;refine wpAny_pyIter_slot hT F.slot_dict_iter (qFs F.slot_dict_iter hT F.entry_dict_iter ?_ (F.args_dict_iter_1 _));delta Builtin.«dict.__iter__»;refine qAd ?_;delta Builtin.Dict.dictSlotNone;refine qAd (wpAny_notOrdered_dict hT ?_);show qBs _ _ (pure (Value.ref d)) _ _ s;refine qAm ?_;show qBs _ _ (Builtin.Dict.showsAll d >>= _) _ _ s;delta Builtin.Dict.showsAll;rw[if_neg (by rw[hd];exact qAn)];refine qAd (qAm ?_);refine qAd (wpAny_dictEntries ho hdat ?_);refine qAd (wpAny_dictEpoch ho hdat ?_);refine qAd (qDr (qAm ⟨_,rfl,"dict_keyiterator",_,⟨_,qAz _ rfl,rfl⟩,F.slot_dict_keyiterator_next.lookup,?_⟩));simpa [qLb] using hQ
theorem Dj(hit:s.heap.IsKeyIter it d i es.size ep)(hod:s.heap.get? d=some o)(hdd:o.data = .dict es ep)(hlt:i<es.size)
  (hQ:∀h',h'.IsKeyIter it d (i+1) es.size ep->qHz it s.heap h'->Q (some es[i].key) { s with heap:=h' }) :
  qBs (qCb prog w) A (qKn (.ref it)) Q E s:=by
 obtain⟨oi,ho,hc,hd⟩:=id hit;delta qKn;refine qAd (qJp (qGd (name:=Str.ofString "__next__") hit.typeIs F.slot_dict_keyiterator_next
  (qFs F.slot_dict_keyiterator_next hit.typeIs F.entry_dict_keyiterator_next ?_ (F.args_dict_keyiterator_next_1 _))))
 refine qAd (qAm ?_);refine qAd ?_;refine qAd ?_;first | refine qAd (qEx hit.typeIs (qAm ?_)) | refine qAd (qFx hit.typeIs (qAm ?_))
 refine qAd (wpAny_fieldsOf ho hd ?_);have hown:Builtin.Dict_items.ownsTuple "dict_keyiterator"=false:=by decide
 simp only[hown,qFr,if_false];show qBs _ _ (if (Value.ref d == Value.none)=true then _ else _) _ _ s;rw[if_neg (show ¬((Value.ref d == Value.none)=true) from qAn)];refine qAd (qAm ?_);refine qAd (wpAny_dictEntries hod hdd ?_);rw[if_neg (by simp)];refine qAd (qAm ?_);refine qAd (wpAny_dictEpoch hod hdd ?_);rw[if_neg (by simp)];refine qAm ?_;simp only[show ¬((i:Int)<0) from by lia,if_false,qBv,qEp hlt];refine qAd ?_;first | refine qAd (qEx hit.typeIs (qAm ?_)) | refine qAd (qFx hit.typeIs (qAm ?_))
 refine qAd (wpAny_isOneOf_keyiter hit.typeIs ?_);show qBs _ _ (setField (.ref it) 1 (qLb ((i:Int)+1)) >>= _) _ _ s;refine qAd (wpAny_setField ho hd (by simp) ?_);have hit':(s.heap.update it (Obj.mapFields (·.setIfInBounds 1 (qLb ((i:Int)+1))))).IsKeyIter it d (i+1) es.size ep :=
  ⟨_,qLh _ ho (Obj.isFreed_of_fields (Obj.data_mapFields hd _)),(Obj.cls_mapFields ..).trans hc,by rw[Obj.data_mapFields hd];simp[qLb]⟩
 refine qAd (qCm ?_);refine qAd (wpAny_isOneOf_keyiter (s:={ s with heap:=s.heap.update it (Obj.mapFields (·.setIfInBounds 1 (qLb ((i:Int)+1)))) }) hit'.typeIs ?_);show qBs _ _ (pure es[i].key) _ _ _;exact qAm (qAm ⟨_,rfl,qAm (hQ _ hit' (Heap.SameBut.update ..))⟩)
theorem Fs(hh:A.handled=none)(hit:s.heap.IsKeyIter it d i es.size ep)(hod:s.heap.get? d=some o)(hdd:o.data = .dict es ep)(hge:es.size<=i)
  (hQ:∀h',Heap.ExtBut it s.heap h'->Q none { s with heap:=h' }):qBs (qCb prog w) A (qKn (.ref it)) Q E s:=by
 obtain⟨oi,ho,hc,hd⟩:=id hit;delta qKn;refine qAd (qJp (qGd (name:=Str.ofString "__next__") hit.typeIs F.slot_dict_keyiterator_next
  (qFs F.slot_dict_keyiterator_next hit.typeIs F.entry_dict_keyiterator_next ?_ (F.args_dict_keyiterator_next_1 _))))
 refine qAd (qAm ?_);refine qAd ?_;refine qAd ?_;first | refine qAd (qEx hit.typeIs (qAm ?_)) | refine qAd (qFx hit.typeIs (qAm ?_))
 refine qAd (wpAny_fieldsOf ho hd ?_);have hown:Builtin.Dict_items.ownsTuple "dict_keyiterator"=false:=by decide
 simp only[hown,qFr,if_false];show qBs _ _ (if (Value.ref d == Value.none)=true then _ else _) _ _ s;rw[if_neg (show ¬((Value.ref d == Value.none)=true) from qAn)];refine qAd (qAm ?_);refine qAd (wpAny_dictEntries hod hdd ?_);rw[if_neg (by simp)];refine qAd (qAm ?_);refine qAd (wpAny_dictEpoch hod hdd ?_);rw[if_neg (by simp)];refine qAm ?_;simp only[show ¬((i:Int)<0) from by lia,if_false,qBv,qKp hge];refine qAd ?_;first | refine qAd (qEx hit.typeIs (qAm ?_)) | refine qAd (qFx hit.typeIs (qAm ?_))
 show qBs _ _ (setField (.ref it) 0 .none >>= _) _ _ s;refine qAd (wpAny_setField ho hd (by simp) ?_);show qBs _ _ (newExc (.type "StopIteration") [] >>= _) _ _ _;refine qAd ?_;simp only[newExc,newTuple];refine qAd (qDr ?_ (by size_fits));refine qAd (m:=firstArgMember _ _) (qFd (a:=Value.none) (by first | rfl | (simp only[firstArgMember];rfl)) ?_)
 refine qDr ?_ (by size_fits);simp only[raiseNew];refine qAd (wpAny_handled ?_);rw[show A.in1.handled=none from hh];refine qAd (qAm (wpAny_throw ?_));refine qAd (wpAny_isInstance (T:="StopIteration") (b:=true) ⟨_,qAz _ rfl,rfl⟩ isSubtype_stop ?_);exact qAm (hQ _ (((Heap.SameBut.update ..).extBut.push _).push _))
end
def Nn(a:Addr)(ob:Obj)(kvs:List (List Key×V)):It :=
 ⟨fun i H=>H a=some (.frz ob (.dT kvs))/\i<kvs.length,fun i H x H'=>H'=H/\∃(b:Addr) (kv:List Key×V),kvs[i]?=some kv/\x = .ref b/\H b=some (.tup (kv.1.map kV)),fun i H=>H a=some (.frz ob (.dT kvs))/\kvs.length<=i⟩
theorem yV(ok:kG P w H h)(e:H a=some (.frz ob (.dT kvs))):h.get? a=some ob/\∃es ep xs,(a == qFg)=false/\ob.ExactDict/\ob.data = .dict es ep/\KT H kvs xs/\es.toList=xs.map (qLs (qGx (dB P w))):=by
 have z:h.get? a=some ob/\_:=ok a _ e;obtain⟨_,hd,xs,rel,o,es,ep,h1,h2,h3,h4,_⟩:=r8 ok (.inr ⟨ob,e⟩);have eo:o=ob:=Option.some.inj (h1.symm.trans z.1);subst eo;exact⟨h1,es,ep,xs,hd,h2,h3,rel,h4⟩
theorem Bl{P:qBl}{w:qCr}{K:qAb}{tg:Expr}(a it:Addr){ob:Obj}{kvs:List (List Key×V)}{es:Array DictEntry}{ep:Nat}(hdat:ob.data = .dict es ep):Turn P w K tg (Nn a ob kvs) [it] it (fun i h=>h.IsKeyIter it a i es.size ep) where
 mem:=by simp
 obj:=fun i h st b hb=>by
  have e:b=it:=by simpa using hb
  subst e;obtain⟨o,e,c,d⟩:=st;exact⟨o,e,fun v z=>by rw[d] at z;cases z⟩
 keep:=fun i h h' st k=>st.at fun o e=>k it (by simp) o e
 item:=by
  intro X hP hw hK hc i pins s σ H E I hf st hg;subst hP hw hK;obtain⟨hq,hlt⟩:=hg;obtain⟨h1,es',ep',xs,h2,h3,h4,rel,h5⟩:=yV I.cK hq;have e1:Data.dict es' ep'=Data.dict es ep:=h4.symm.trans hdat;obtain⟨rfl,rfl⟩:es'=es/\ep'=ep:=by injection e1 with a b;exact⟨a,b⟩
  have hlen:es'.size=kvs.length:=by rw[<- qCa,h5,qAa,Paired.length rel]
  obtain⟨f0,f1,f2,f3,f4,f5⟩:=hf it (by simp);refine Dj st h1 h4 (by lia) fun h' st' sb=>?_;have I1:Inv X pins σ H { s with heap:=h' }:=I.turned (t':=s.toks) (fun b o hb e=>(sb.2 b hb).trans e) f0 f1 f3 f4 f5;obtain⟨o,e,c,dd⟩:=id st';have hx:∃x,xs[i]?=some x/\es'[i]'(by lia)=qLs (qGx (dB X.prog X.w)) x:=by
   have z:es'.toList[i]?=(xs[i]?).map (qLs (qGx (dB X.prog X.w))):=by rw[h5,qAf]
   rw[qHp,qEp (by lia)] at z;cases hx:xs[i]? with
   | none=>rw[hx] at z;cases z
   | some x=>rw[hx] at z;exact⟨x,rfl,Option.some.inj z⟩
  obtain⟨x,hx1,hx2⟩:=hx;have hkv:∃kv,kvs[i]?=some kv/\(kv.1=x.1/\H x.2.1=some (.tup (kv.1.map kV))/\RelV kv.2 x.2.2):=by
   clear hlen hlt hx2 st h5 h4 h3 h1 hq dd c e st' sb I1
   induction rel generalizing i with
   | nil=>simp at hx1
   | @cons p q ps qs r t ih =>
    cases i with
    | zero =>
     simp only[qHh,Option.some.injEq] at hx1;subst hx1;exact⟨p,rfl,r⟩
    | succ i =>
     rw[qEt] at hx1;exact ih i hx1
  obtain⟨kv,hk1,hk2,hk3,_⟩:=hkv;refine⟨_,rfl,uY (s:={ s with heap:=h' }) e c dd #[1] ⟨.ref x.2.1,H,I1,?_,⟨rfl,x.2.1,kv,hk1,rfl,hk3⟩,st',fun b hb=>(hf b hb).1⟩⟩;rw[hx2];rfl
 done:=by
  intro X hP hw hK hc i pins s σ H E I hf st hg;subst hP hw hK;obtain⟨hq,hge⟩:=hg;obtain⟨h1,es',ep',xs,h2,h3,h4,rel,h5⟩:=yV I.cK hq;have e1:Data.dict es' ep'=Data.dict es ep:=h4.symm.trans hdat;obtain⟨rfl,rfl⟩:es'=es/\ep'=ep:=by injection e1 with a b;exact⟨a,b⟩
  have hlen:es'.size=kvs.length:=by rw[<- qCa,h5,qAa,Paired.length rel]
  obtain⟨f0,f1,f2,f3,f4,f5⟩:=hf it (by simp);exact Fs (I.ok.hd hc) st h1 h4 (by lia) fun h' eb=>⟨rfl,I.turned (t':=s.toks) (fun b o hb e=>eb b o hb e) f0 f1 f3 f4 f5⟩
 self:=fun _ _ _ _ _ st h=>wpAny_pyIter_keyiter st h
section
variable {X:Cx}{tg:Expr}
def Np(td:TE):TI:=fun σ H R=>td σ H fun x H1=>∃(a:Addr) (ob:Obj) (kvs:List (List Key×V)),x = .ref a/\H1 a=some (.frz ob (.dT kvs))/\R (Nn a ob kvs) H1
theorem Ft{l:Expr}{td:TE}(hl:PE X l td):PI X tg l (Np td):=by
 intro pins s σ H R I h;refine cA (hl pins s σ H _ I h) fun v s1 z9=>?_;obtain⟨x,H1,I1,r1,q1⟩:=z9;obtain⟨a,ob,kvs,e,hq,q⟩:=q1;subst e;cases r1;obtain⟨h1,es,ep,xs,h2,h3,h4,rel,h5⟩:=yV I1.cK hq;refine Di h2 h1 h3 h4 ?_;refine⟨s1.heap.objs.size,[s1.heap.objs.size],_,_,H1,rfl,I1.kept (t':=s1.toks) fun b o e=>qAk _ e,Bl a _ h4,⟨_,qAz _ rfl,rfl,rfl⟩,fun b hb=>?_,q⟩;have e:b=s1.heap.objs.size:=by simpa using hb
 subst e;exact I1.qP (qAl _) (I1.cK.fresh (qAl _))
end
section
variable {K:qAb}{a:Addr}{xs:List V}{σ0:St}{H1:Hp}{g:TG}{c:TT}{te:TE}{Q:Addr->Hp->Prop}
theorem yW(Ag:St->Prop)(R:Nat->V->Hp->Prop)(mono:∀i y H H',eO H H'->R i y H->R i y H')(h0:Ag σ0)(hq:aV K H1 a xs)(hn:xs.length<=qAg)
  (step:∀(i:Nat) (x:V) (t:Addr) (σ1:St) (H2:Hp) (k:St->VK) (k0:St->Hp->Prop),Ag σ1->aJ H1 H2->xs[i]?=some x->H2 t=some (.tup [.int (i:Int),x])->(∀σ2 y H3,Ag σ2->aJ H2 H3->R i y H3->k σ2 y H3) ->
   g (.ref t) σ1 H2 fun σ2 H3=>c σ2 H3 fun b H4=>if b=true then te σ2 H4 (k σ2) else k0 σ2 H4)
  (h:∀D ys H2,H1 D=none->aJ H1 H2->ys.length=xs.length->(∀i y,ys[i]?=some y->R i y H2)->H2 D=some (.lst ys)->Q D H2) :
  ∀D,H1 D=none->∃W:Nat->Nat->St->Hp->Prop,(∃m,W 0 m σ0 (upd H1 D (.lst [])))/\∀i m σ1 H2,W i m σ1 H2 ->
   ((CU K a).stop i H2/\Q D H2)\/((CU K a).go i H2/\∃N:St->Hp->Prop,(∀σ' H',N σ' H'->∃m',m'<m/\W (i+1) m' σ' H') /\
    ∀x H',(CU K a).tE i H2 x H'->g x σ1 H' fun σ2 H3=>c σ2 H3 fun b H4=>if b=true then te σ2 H4 fun y H5=>∃xs,H5 D=some (.lst xs)/\xs.length<qAg/\N σ2 (upd H5 D (.lst (xs++[y]))) else N σ2 H4):=by
 intro D hD;refine⟨fun i m σ1 H2=>Ag σ1/\aJ H1 H2/\(∃ys,ys.length=i/\(∀j y,ys[j]?=some y->R j y H2)/\H2 D=some (.lst ys))/\i<=xs.length/\m=xs.length-i,⟨xs.length,h0,.aI hD,⟨[],rfl,fun j y e=>(by cases e),aC⟩,qBf _,rfl⟩,?_⟩;rintro i m σ1 H2 ⟨hσ,hs,⟨ys,hy,hR,hd⟩,hi,rfl⟩;rcases qBj i xs.length with hlt | hge
 .right
  refine⟨⟨xs,xs[i],hs.seq hq,by simp[hlt]⟩,fun σ' H'=>Ag σ'/\aJ H1 H'/\∃ys,ys.length=i+1/\(∀j y,ys[j]?=some y->R j y H')/\H' D=some (.lst ys),(by rintro σ' H' ⟨a,b,c⟩;exact ⟨xs.length-(i+1),by lia,a,b,c,hlt,rfl⟩),?_⟩;rintro v H' ⟨t,x,rfl,ht,rfl,hx⟩;have hx:=hx xs (hs.seq hq);have hst:aJ H1 (upd H2 t (.tup [.int (i:Int),x])):=hs.trans (.aI ht);have u2:=aJ.aI (o:=.tup [.int (i:Int),x]) ht;have hdt:=u2 _ _ hd;refine step i x t σ1 _ (fun σ2 y H5=>∃xs,H5 D=some (.lst xs)/\xs.length<qAg/\_) _ hσ hst hx aC (fun σ2 y H3 a2 hs3 hR3=>⟨_,hs3 _ _ hdt,by lia,a2,(hst.trans hs3).upd_ne' hD,ys++[y],by rw[qAo];show _+1=_;lia,fun j z e=>?_,aC⟩);have keep:∀{j z},R j z H3->R j z (upd H3 D (.lst (ys++[y]))):=fun {j z} q=>mono _ _ _ _ (.lst (hs3 _ _ hdt)) q;rcases qBj j ys.length with z1 | z1
  .rw[qBu z1] at e;exact keep (mono _ _ _ _ hs3.t (mono _ _ _ _ u2.t (hR j z e)))
  .rw[qCd z1] at e;obtain⟨rfl,rfl⟩:j=i/\y=z:=by
    rcases qDt (j-ys.length) with q | q
    .rw[q] at e;exact⟨by lia,Option.some.inj e⟩
    .rw[qCu (by show 1<=_;lia)] at e;cases e
   exact keep hR3
 .left
  obtain rfl:i=xs.length:=qDe hi hge;exact⟨⟨xs,hs.seq hq,qAl _⟩,h D ys _ hD hs hy hR hd⟩
end
section
variable {X:Cx}
end
section
variable {K:qAb}{a:Addr}{xs:List V}{lo:Int}{n:Nat}{σ0:St}{H1:Hp}{i0:Nat}{c:TT}{te:TE}{Q:Addr->Hp->Prop}
end
section
variable {X:Cx}
end
section
variable {K:qAb}{a a':Addr}{xs xs':List V}{lo:Int}{n:Nat}{σ0:St}{H1:Hp}{i0:Nat}{c:TT}{te:TE}{g:TG}{Q:Addr->Hp->Prop}
end
section
variable {X:Cx}
end
section
variable {K:qAb}{lo:Int}{n:Nat}{σ0:St}{H1:Hp}{i0:Nat}{c:TT}{te:TE}{Q:Addr->Hp->Prop}
end
section
variable {prog:qBl}{w:qCr}{A:qDf}{E:qAi->qAp->Prop}{s:qAp}
end
section
variable {X:Cx}
end
section
variable {X:Cx}
end
end L2
namespace L2
namespace ST
open PySem
end ST
end L2
namespace L2
namespace ST
open PySem PySem.Spec PyProof.Rows
def iv:qAi->Int
 | .int n _=>n
 | _=>0
section
variable {prog:qBl}{w:qCr}{A:qDf}{E:qAi->qAp->Prop}{s:qAp}
end
section
variable {prog:qBl}{w:qCr}{A:qDf}{R:qOr->qAp->Prop}{I:Addr}{fp wr:List Addr}{G:Array qNq->Array qNq->Prop}{n:Nat}{P:Nat->qAi->Prop}{St:Nat->qAp->Prop}
end
end ST
end L2
namespace PySem
namespace ST
open L2.ST
section
variable {prog:qBl}{w:qCr}{A:qDf}{E:qAi->qAp->Prop}{s:qAp}
set_option maxHeartbeats 3200000 in
end
end ST
end PySem
namespace PySem
namespace ST
open L2.ST
section
variable {prog:qBl}{w:qCr}{A:qDf}{E:qAi->qAp->Prop}{s:qAp}{I S:Addr}{o:Obj}{es:Array (Int×qAi)}{ep:Nat}{t:SetTable}
end
end ST
end PySem
namespace PySem
namespace ST
open L2.ST PyProof.Rows
section
variable {prog:qBl}{w:qCr}{A:qDf}{E:qAi->qAp->Prop}{s:qAp}{I S:Addr}{o:Obj}{es:Array (Int×qAi)}{ep:Nat}{t:SetTable}
end
end ST
end PySem
namespace PySem
namespace ST
open L2.ST PyProof.Rows
section
variable {prog:qBl}{w:qCr}{A:qDf}{E:qAi->qAp->Prop}{s:qAp}{S:Addr}{σ:List Int}
end
end ST
end PySem
namespace L2
open PySem PySem.Spec PyProof.Rows
section
variable {X:Cx}
end
end L2
set_option maxHeartbeats 4000000
namespace L2
open PySem PySem.Spec PyProof.Rows
section
variable {X:Cx}{tg:Expr}
end
section
variable {K:qAb}{a a':Addr}{xs xs':List V}{lo:Int}{n:Nat}{σ0:St}{H1:Hp}{i0:Nat}{c:TT}{te:TE}{g:TG}{Q:Addr->Hp->Prop}
end
end L2
set_option maxHeartbeats 4000000
namespace L2
open PySem PySem.Spec PyProof.Rows
end L2
set_option maxHeartbeats 4000000
namespace L2
open PySem PySem.Spec PyProof.Rows
section
variable {X:Cx}
end
section
variable {X:Cx}
def Sj(t:TE):TE:=fun σ H Q=>t σ H fun x H1=>∃i:Int,x = .int i/\i.natAbs.log2<1920/\Q (.str (toString i)) H1
theorem nO(h:PE X e t):PE X (.FormattedValue e (-1) none pos) (Sj t):=by
 intro pins s σ H Q I hq;refine wpAny_FormattedValue_plain (cA (h pins s σ H _ I hq) fun v s1 z9=>?_);obtain⟨x,H1,I1,r1,q1⟩:=z9;obtain⟨i,rfl,hi,q⟩:=q1;obtain⟨t,rfl⟩:=(show ∃t,v=Value.int i t from r1);exact wpAny_formatField_int hi ⟨.str _,H1,I1.tok _,⟨_,rfl⟩,q⟩
abbrev TJ:=St->Hp->Str->(Str->Hp->Prop)->Prop
def PJ(X:Cx)(es:List Expr)(t:TJ):Prop :=
 ∀(pins:List (Addr×Obj)) (s:qAp) (σ:St) (H:Hp) (acc:Str) (R:Str->Hp->Prop) (Q:Str->qAp->Prop),Inv X pins σ H s->t σ H acc R->(∀out H' s',Inv X pins σ H' s'->R out H'->Q out s')->Joins (qCb X.prog X.w) X.A X.xe (evalEach es X.env) acc Q s
def Nq:TJ:=fun _ H acc R=>R acc H
def IS(t:TE)(r:TJ):TJ:=fun σ H acc R=>t σ H fun x H1=>∃y:Str,x = .str y/\(acc++y).length<=qAg/\r σ H1 (acc++y) R
theorem tV:PJ X [] Nq:=fun _ _ _ _ _ _ _ I h k=>k _ _ _ I h
theorem eG(h:PE X e t)(hr:PJ X es r):PJ X (e::es) (IS t r):=by
 intro pins s σ H acc R Q I hq k;show qBs _ _ (eval e X.env) _ _ s;refine cA (h pins s σ H _ I hq) fun v s1 z9=>?_;obtain⟨x,H1,I1,r1,q1⟩:=z9;obtain⟨y,rfl,hy,q⟩:=q1;obtain⟨t,rfl⟩:=(show ∃t,v=Value.str y t from r1);exact⟨y,t,rfl,hy,hr pins s1 σ H1 _ R Q I1 q k⟩
def Sk(t:TJ):TE:=fun σ H Q=>t σ H Str.empty fun out H1=>out.length<=qAg/\Q (.str out) H1
theorem z9(h:PJ X (e1::e2::es) t):PE X (.JoinedStr (e1::e2::es) pos) (Sk t):=by
 intro pins s σ H Q I hq;exact wpAny_JoinedStr (h pins s σ H _ _ _ I hq fun out H' s' I' q=>⟨q.1,.str _,H',I'.tok _,⟨_,rfl⟩,q.2⟩)
def rJoin(K:qAb):V->List V->Hp->VK->Prop:=fun x vs H Q=>∃(sep:Str) (p:Addr) (ss:List Str),x = .str sep/\vs=[.ref p]/\aV K H p (ss.map V.str)/\(ss.map (·.length)).sum+ss.length*sep.length<=16777216/\Q (.str (Txt.join sep ss)) H
theorem Aa:∀{ss:List Str}{us:List qAi},Vals (ss.map V.str) us->StrsAre us ss
 | [],_,.nil=>.nil
 | s::ss,_,.cons r rs=>by
  obtain⟨t,rfl⟩:=(show ∃t,_=Value.str s t from r);exact .cons s t (Aa rs)
theorem fW:Iq X "str.join" (rJoin X.K):=by
 intro pins s σ H x vs v us Q I rx rv h;obtain⟨sep,p,ss,rfl,rfl,hq,hl,q⟩:=h;obtain⟨t,rfl⟩:=(show ∃t,v=Value.str sep t from rx);obtain⟨u,rfl,ru⟩:=rv.one;cases ru;obtain⟨its,r',pl,hz⟩:=I.list hq;exact join_list pl.isList (Aa r') hl fun t' k=>⟨.str _,H,I.tok _,⟨_,rfl⟩,q⟩
end
end L2
set_option maxHeartbeats 4000000
namespace PySem.W
open PySem PySem.Calls PyProof.Rows
theorem KasT.run_bind:∀{t:KasT α},(t.bind f).run lt=(f (t.run lt)).run lt
 | .ret a=>rfl
 | .ask i j k=>KasT.run_bind (t:=k (lt i j))
namespace SG
section
variable {n:Nat}{code:Nat->Nat}
abbrev ck(code:Nat->Nat)(p:Array Nat)(i:Nat):Nat:=code (p.getD i 0)
abbrev lc(code:Nat->Nat):Nat->Nat->Bool:=fun i j=>decide (code i<code j)
def Dk(code:Nat->Nat)(p:Array Nat)(m:Nat):Prop:=∀i j,i<j->j<m->ck code p i<ck code p j
def Dec(code:Nat->Nat)(p:Array Nat)(m:Nat):Prop:=∀i j,i<j->j<m->ck code p j<ck code p i
def Inj(n:Nat)(code:Nat->Nat)(p:Array Nat):Prop:=∀i j,i<n->j<n->ck code p i=ck code p j->i=j
theorem getD_at(p:Array Nat)(i:Nat):p.getD i 0=(p[i]?).getD 0:=by
 by_cases h:i<p.size
 .simp[qGi,h]
 .simp[qGi,h]
theorem iF.size(h:iF n p):p.size=n:=by
 have:=h.length_eq;rw[qBg,qCa] at this;exact this
theorem IT(hn:0<n)(h:iF n p)(inj:∀i j,i<n->j<n->code i=code j->i=j):Inj n code p:=fun i j hi hj e=>by
 have e:=inj _ _ (h.lt hn i) (h.lt hn j) e;have nd:p.toList.Nodup:=h.nodup_iff.mpr qJk;have sz:=iF.size h;have gi:p.getD i 0=p.toList[i]'(by rw[qCa];lia):=by simp[qGi,show i<p.size by lia]
 have gj:p.getD j 0=p.toList[j]'(by rw[qCa];lia):=by simp[qGi,show j<p.size by lia]
 rw[gi,gj] at e;exact(qMq nd).mp e
theorem tW(ij:Inj n code p):∀f m,1<=m->m+f<=n->Dk code p m->∃m',(kas_asc p f m).run (lc code)=m'/\m<=m'/\m'<=m+f/\Dk code p m'/\(m'=m+f\/ck code p m'<ck code p (m'-1))
 | 0,m,_,_,s=>⟨m,rfl,qAl _,qAl _,s,.inl rfl⟩
 | f+1,m,m1,mf,s=>by
  by_cases h:ck code p m<ck code p (m-1)
  .refine⟨m,?_,qAl _,by lia,s,.inr h⟩;show KasT.run _ (if lc code (p.getD m 0) (p.getD (m-1) 0)=true then _ else _)=m;rw[if_pos (decide_eq_true h)];rfl
  .have s':Dk code p (m+1):=fun i j hij hj=>by
    rcases qBj j m with q | q
    .exact s i j hij q
    .obtain rfl:j=m:=by lia
     have ne:ck code p j≠ck code p (j-1):=fun e=>by have:=ij j (j-1) (by lia) (by lia) e;lia
     rcases qBj i (j-1) with z | z
     .have:=s i (j-1) z (by lia);lia
     .obtain rfl:i=j-1:=by lia
      lia
   obtain⟨m',e,a,b,c,d⟩:=tW ij f (m+1) (by lia) (by lia) s';refine⟨m',?_,by lia,by lia,c,by lia⟩;show KasT.run _ (if lc code (p.getD m 0) (p.getD (m-1) 0)=true then _ else _)=m';rw[if_neg (by rw[show lc code (p.getD m 0) (p.getD (m-1) 0)=false from decide_eq_false h];decide)];exact e
theorem vY(ij:Inj n code p):∀f m,1<=m->m+f<=n->Dec code p m->∃m',(kas_desc f p m 0).run (lc code)=(p,m',0)/\m<=m'/\m'<=m+f/\Dec code p m'
 | 0,m,_,_,s=>⟨m,rfl,qAl _,qAl _,s⟩
 | f+1,m,m1,mf,s=>by
  by_cases h:ck code p m<ck code p (m-1)
  .have s':Dec code p (m+1):=fun i j hij hj=>by
    rcases qBj j m with q | q
    .exact s i j hij q
    .obtain rfl:j=m:=by lia
     rcases qBj i (j-1) with z | z
     .have:=s i (j-1) z (by lia);lia
     .obtain rfl:i=j-1:=by lia
      lia
   obtain⟨m',e,a,b,c⟩:=vY ij f (m+1) (by lia) (by lia) s';refine⟨m',?_,by lia,by lia,c⟩;show KasT.run _ (if lc code (p.getD m 0) (p.getD (m-1) 0)=true then (if 0>0 then _ else _) else _)=_;rw[if_pos (decide_eq_true h),if_neg (by lia)];exact e
  .have ne:ck code p m≠ck code p (m-1):=fun e=>by have:=ij m (m-1) (by lia) (by lia) e;lia
   refine⟨m,?_,qAl _,by lia,s⟩;show KasT.run _ (if lc code (p.getD m 0) (p.getD (m-1) 0)=true then _ else KasT.ask _ _ _)=_;rw[if_neg (by rw[show lc code (p.getD m 0) (p.getD (m-1) 0)=false from decide_eq_false h];decide)];show KasT.run _ (if lc code (p.getD (m-1) 0) (p.getD m 0)=true then _ else _)=_;rw[if_pos (decide_eq_true (by show ck code p (m-1)<ck code p m;lia))];rfl
theorem Dl(hm:m<=p.size)(i:Nat)(hi:i<m):(kas_rev p 0 m).getD i 0=p.getD (m-1-i) 0:=by
 rw[getD_at,getD_at];delta kas_rev;rw[getElem?_mirror_all hm,if_pos ⟨qBf _,hi⟩,Nat.zero_add]
theorem Bm(hn:0<n)(inj:∀i j,i<n->j<n->code i=code j->i=j){p:Array Nat}(h:iF n p):∃m p',(kas_count n p).run (lc code)=(m,p')/\iF n p'/\1<=m/\m<=n/\Dk code p' m:=by
 have ij:=IT hn h inj;have sz:=iF.size h;obtain⟨m1,e1,a1,b1,c1,d1⟩:=tW ij (n-1) 1 (qAl _) (by lia) fun i j hij hj=>by lia
 delta kas_count;rw[KasT.run_bind,e1];by_cases h1:(m1 == n)=true
 .rw[if_pos h1];exact⟨m1,p,rfl,h,by lia,by lia,c1⟩
 rw[if_neg h1];have ne:m1≠n:=fun e=>h1 (by rw[e];exact beq_self_eq_true _);by_cases h2:m1>1
 .rw[if_pos h2];refine⟨m1,p,?_,h,by lia,by lia,c1⟩;show KasT.run _ (if lc code (p.getD 0 0) (p.getD (m1-1) 0)=true then _ else _)=_;rw[if_pos (decide_eq_true (c1 0 (m1-1) (by lia) (by lia)))];rfl
 rw[if_neg h2];obtain rfl:m1=1:=by lia
 have lt1:ck code p 1<ck code p 0:=by rcases d1 with z | z;lia;exact z
 obtain⟨m2,e2,a2,b2,c2⟩:=vY ij (n-(1+1)) (1+1) (by lia) (by lia) fun i j hij hj=>by
  obtain rfl:i=0:=by lia
  obtain rfl:j=1:=by lia
  exact lt1
 delta kas_descPart;rw[KasT.run_bind,e2];show ∃m p',KasT.run _ (if (0:Nat)>0 then _ else kas_tail3 m2 n p)=(m,p')/\_;rw[if_neg (by lia)];have h2:=h.rev 0 m2;have s2:Dk code (kas_rev p 0 m2) m2:=fun i j hij hj=>by
  show code _<code _;rw[Dl (by lia) i (by lia),Dl (by lia) j hj];exact c2 (m2-1-j) (m2-1-i) (by lia) (by lia)
 obtain⟨m3,e3,a3,b3,c3,_⟩:=tW (IT hn h2 inj) (n-m2) m2 (by lia) (by lia) s2;refine⟨m3,kas_rev p 0 m2,?_,h2,by lia,by lia,c3⟩;delta kas_tail3;rw[KasT.run_bind,e3];rfl
theorem mX(hk:k<n)(ij:Inj n code p)(s:Dk code p k):∀f l r,l<=r->r<=k->r-l<=f->(∀i,i<l->ck code p i<ck code p k)->(∀i,r<=i->i<k->ck code p k<ck code p i) ->
  ∃l',(kas_place p k f l r).run (lc code)=l'/\l'<=k/\(∀i,i<l'->ck code p i<ck code p k)/\(∀i,l'<=i->i<k->ck code p k<ck code p i)
 | 0,l,r,lr,rk,f0,a,b=>⟨l,rfl,by lia,a,fun i hi=>b i (by lia)⟩
 | f+1,l,r,lr,rk,fl,a,b=>by
  by_cases h:l≥r
  .refine⟨l,?_,by lia,a,fun i hi=>b i (by lia)⟩;show KasT.run _ (if l≥r then _ else _)=l;rw[if_pos h];rfl
  .have q:(kas_place p k (f+1) l r).run (lc code)=(if lc code (p.getD k 0) (p.getD ((l+r)/2) 0)=true then kas_place p k f l ((l+r)/2) else kas_place p k f ((l+r)/2+1) r).run (lc code):=by
    show KasT.run _ (if l≥r then _ else _)=_;rw[if_neg h];rfl
   rw[q];by_cases c:ck code p k<ck code p ((l+r)/2)
   .rw[if_pos (decide_eq_true c)];refine mX hk ij s f l ((l+r)/2) (by lia) (by lia) (by lia) a fun i hi hik=>?_;rcases qBj ((l+r)/2) i with z | z
    .have:=s _ i z hik;lia
    .obtain rfl:i=(l+r)/2:=by lia
     exact c
   .rw[if_neg (by rw[show lc code (p.getD k 0) (p.getD ((l+r)/2) 0)=false from decide_eq_false c];decide)];have ne:ck code p k≠ck code p ((l+r)/2):=fun e=>by have:=ij k _ hk (by lia) e;lia
    refine mX hk ij s f ((l+r)/2+1) r (by lia) rk (by lia) (fun i hi=>?_) b;rcases qBj i ((l+r)/2) with z | z
    .have:=s i _ z (by lia);lia
    .obtain rfl:i=(l+r)/2:=by lia
     lia
theorem Dm(hk:k<p.size)(hl:l<=k)(i:Nat):(bubble p k (k-l)).getD i 0=if i=l then p.getD k 0 else if l<i/\i<=k then p.getD (i-1) 0 else p.getD i 0:=by
 rw[getD_at (bubble p k (k-l)),getD_at p k,getD_at p (i-1),getD_at p i,getElem?_bubble hk _ (by lia),show k-(k-l)=l by lia];split
 .rfl
 .split <;> rfl
theorem Ab(hn:0<n)(inj:∀i j,i<n->j<n->code i=code j->i=j):∀f p k,iF n p->Dk code p k->k+f=n->iF n ((kas_bin f p k).run (lc code))/\Dk code ((kas_bin f p k).run (lc code)) n
 | 0,p,k,h,s,e=>by
  obtain rfl:k=n:=by lia
  exact⟨h,s⟩
 | f+1,p,k,h,s,e=>by
  have ij:=IT hn h inj;have sz:=iF.size h;obtain⟨l,el,lk,a,b⟩:=mX (by lia) ij s k 0 k (qBf _) (qAl _) (by lia) (fun i hi=>by lia) (fun i hi hk=>by lia);show iF n ((KasT.bind _ _).run _)/\Dk code ((KasT.bind _ _).run _) n;rw[KasT.run_bind,el];refine Ab hn inj f _ (k+1) (h.RO _ _) (fun i j hij hj=>?_) (by lia);show code _<code _;rw[Dm (by lia) lk,Dm (by lia) lk];by_cases j1:j=l
  .rw[if_pos j1,if_neg (by lia),if_neg (by lia)];exact a i (by lia)
  rw[if_neg j1];by_cases j2:l<j/\j<=k
  .rw[if_pos j2];by_cases i1:i=l
   .rw[if_pos i1];exact b (j-1) (by lia) (by lia)
   rw[if_neg i1];by_cases i2:l<i/\i<=k
   .rw[if_pos i2];exact s (i-1) (j-1) (by lia) (by lia)
   .rw[if_neg i2];exact s i (j-1) (by lia) (by lia)
  .rw[if_neg j2,if_neg (by lia),if_neg (by lia)];exact s i j hij (by lia)
theorem Dn(hn:0<n)(inj:∀i j,i<n->j<n->code i=code j->i=j):Dk code ((kas_sort n).run (lc code)) n:=by
 obtain⟨m,p',e,h,m1,mn,s⟩:=Bm hn inj (show iF n (qEm (qAh n)) from List.Perm.refl _);delta kas_sort;rw[KasT.run_bind,e];show Dk code (KasT.run _ (if m<n then kas_bin (n-max m 1) p' (max m 1) else _)) n;rw[show max m 1=m by lia];by_cases z:m<n
 .rw[if_pos z];exact(Ab hn inj _ p' m h s (by lia)).2
 .rw[if_neg z];obtain rfl:m=n:=by lia
  exact s
theorem kS(hn:0<n){lt:Nat->Nat->Bool}(hlt:∀i j,i<n->j<n->lt i j=decide (code i<code j))(inj:∀i j,i<n->j<n->code i=code j->i=j):(((kas_sort n).run lt).toList.map code).Pairwise (· < ·):=by
 have e:(kas_sort n).run lt=(kas_sort n).run (lc code):=KasT.mU (n:=n) (P:=iF n) (fun i j hi hj=>hlt i j hi hj) (lO hn);have pm:iF n ((kas_sort n).run lt):=KasT.yU (lO hn);have s:=Dn hn inj;rw[<- e] at s;have sz:=iF.size pm;rw[qMk,List.pairwise_iff_getElem];intro i j hi hj hij;rw[qCa] at hi hj;have z:=s i j hij (by lia);have gi:((kas_sort n).run lt).getD i 0=((kas_sort n).run lt).toList[i]'(by rw[qCa];exact hi):=by simp[qGi,hi]
 have gj:((kas_sort n).run lt).getD j 0=((kas_sort n).run lt).toList[j]'(by rw[qCa];exact hj):=by simp[qGi,hj]
 have z:code _<code _:=z;rw[gi,gj] at z;exact z
end
end SG
end PySem.W
namespace L2
open PySem PySem.Spec PyProof.Rows PySem.W
section
variable {X:Cx}
theorem qX:eZ X (.builtin "sorted") (fun xs H Q=>∃(p:Addr) (as:List Addr) (c:Addr->Nat),xs=[.ref p]/\aV X.K H p (as.map V.ref)/\(∀a∈as,Bf H a)/\as.length<64/\(∀a∈as,∀b∈as,HT.lexLt (gB H a) (gB H b)=decide (c a<c b))/\(as.map c).Nodup /\
  ∀(l:Addr) (bs:List Addr),H l=none->bs.Perm as->(bs.map c).Pairwise (· < ·)->Q (.ref l) (upd H l (.lst (bs.map V.ref)))):=fun pins s σ H xs us Q I r h=>by
 obtain⟨p,as,c,e1,e2,e3,e4,e5,e6,q⟩:=h;refine kI pins s σ H xs us Q I r ⟨p,as,e1,e2,e3,e4,fun l bs hl hp hb=>q l bs hl hp ?_⟩;rcases qDt as.length with z | h0
 .have:as=[]:=qGf z;subst this;rw[List.perm_nil.mp hp];exact List.Pairwise.nil
 have at_:∀i,i<as.length->as.getD i 0∈as:=fun i hi=>by
  rw[qAj,qAc hi];exact qDm hi
 have z:=SG.kS h0 (code:=fun i=>c (as.getD i 0)) (fun i j hi hj=>e5 _ (at_ i hi) _ (at_ j hj)) fun i j hi hj e=>by
  refine(qIz (i:=i) (j:=j) (by rw[qAa];exact hi) e6).mp ?_;rw[qAf,qAf,qAc hi,qAc hj];have e':c (as.getD i 0)=c (as.getD j 0):=e;rw[qAj,qAj,qAc hi,qAc hj] at e';exact congrArg some e'
 rw[hb,qBo];exact z
end
section
variable {K:qAb}{a:Addr}{xs:List V}{σ0:St}{H1:Hp}{g:TG}{c:TT}{te:TE}{Q:Addr->Hp->Prop}
theorem pM(Ag:St->Prop)(R:Nat->V->Hp->Prop)(mono:∀i y H H',eO H H'->R i y H->R i y H')(h0:Ag σ0)(hq:aV K H1 a xs)(hn:xs.length<=qAg)
  (step:∀(i:Nat) (x:V) (σ1:St) (H2:Hp) (k:St->VK) (k0:St->Hp->Prop),Ag σ1->aJ H1 H2->xs[i]?=some x->(∀σ2 y H3,Ag σ2->aJ H2 H3->R i y H3->k σ2 y H3) ->
   g x σ1 H2 fun σ2 H3=>c σ2 H3 fun b H4=>if b=true then te σ2 H4 (k σ2) else k0 σ2 H4)
  (h:∀D ys H2,H1 D=none->aJ H1 H2->ys.length=xs.length->(∀i y,ys[i]?=some y->R i y H2)->H2 D=some (.lst ys)->Q D H2) :
  ∀D,H1 D=none->∃W:Nat->Nat->St->Hp->Prop,(∃m,W 0 m σ0 (upd H1 D (.lst [])))/\∀i m σ1 H2,W i m σ1 H2 ->
   ((uP K a).stop i H2/\Q D H2)\/((uP K a).go i H2/\∃N:St->Hp->Prop,(∀σ' H',N σ' H'->∃m',m'<m/\W (i+1) m' σ' H') /\
    ∀x H',(uP K a).tE i H2 x H'->g x σ1 H' fun σ2 H3=>c σ2 H3 fun b H4=>if b=true then te σ2 H4 fun y H5=>∃xs,H5 D=some (.lst xs)/\xs.length<qAg/\N σ2 (upd H5 D (.lst (xs++[y]))) else N σ2 H4):=by
 intro D hD;refine⟨fun i m σ1 H2=>Ag σ1/\aJ H1 H2/\(∃ys,ys.length=i/\(∀j y,ys[j]?=some y->R j y H2)/\H2 D=some (.lst ys))/\i<=xs.length/\m=xs.length-i,⟨xs.length,h0,.aI hD,⟨[],rfl,fun j y e=>(by cases e),aC⟩,qBf _,rfl⟩,?_⟩;rintro i m σ1 H2 ⟨hσ,hs,⟨ys,hy,hR,hd⟩,hi,rfl⟩;rcases qBj i xs.length with hlt | hge
 .right
  refine⟨⟨xs,xs[i],hs.seq hq,by simp[hlt]⟩,fun σ' H'=>Ag σ'/\aJ H1 H'/\∃ys,ys.length=i+1/\(∀j y,ys[j]?=some y->R j y H')/\H' D=some (.lst ys),(by rintro σ' H' ⟨a,b,c⟩;exact ⟨xs.length-(i+1),by lia,a,b,c,hlt,rfl⟩),?_⟩;rintro x H' ⟨rfl,hx⟩;have hx:=hx xs (hs.seq hq);refine step i x σ1 _ (fun σ2 y H5=>∃xs,H5 D=some (.lst xs)/\xs.length<qAg/\_) _ hσ hs hx (fun σ2 y H3 a2 hs3 hR3=>⟨_,hs3 _ _ hd,by lia,a2,(hs.trans hs3).upd_ne' hD,ys++[y],by rw[qAo];show _+1=_;lia,fun j z e=>?_,aC⟩);have keep:∀{j z},R j z H3->R j z (upd H3 D (.lst (ys++[y]))):=fun {j z} q=>mono _ _ _ _ (.lst (hs3 _ _ hd)) q;rcases qBj j ys.length with z1 | z1
  .rw[qBu z1] at e;exact keep (mono _ _ _ _ hs3.t (hR j z e))
  .rw[qCd z1] at e;obtain⟨rfl,rfl⟩:j=i/\y=z:=by
    rcases qDt (j-ys.length) with q | q
    .rw[q] at e;exact⟨by lia,Option.some.inj e⟩
    .rw[qCu (by show 1<=_;lia)] at e;cases e
   exact keep hR3
 .left
  obtain rfl:i=xs.length:=qDe hi hge;exact⟨⟨xs,hs.seq hq,qAl _⟩,h D ys _ hD hs hy hR hd⟩
end
section
variable {X:Cx}
theorem all_true(n:Nat):(qAh n).all (fun _=>true)=true:=List.all_eq_true.mpr fun _ _=>rfl
def Qt(K:qAb):R2:=fun x y H Q=>∃(l l':Addr) (xs:List V),x = .ref l/\y = .ref l'/\aV K H l xs/\aV K H l' []/\Q (.bl (decide (xs≠[]))) H
theorem Dp(hu:X.A.units+64<qIe):hU X (qDd .NotEq) (Qt X.K):=by
 intro pins s σ H x y v u Q I rx ry h;obtain⟨l,l',xs,rfl,rfl,h1,h2,q⟩:=h;cases rx;cases ry;obtain⟨its,r,pl,hz⟩:=I.list h1;obtain⟨its2,r2,pl2,hz2⟩:=I.list h2;have l2:its2.length=0:=by rw[<- r2.length];rfl
 by_cases c:xs=[]
 .subst c;have l1:its.length=0:=by rw[<- r.length];rfl
  refine PySem.SeqAt.RcNeAt.lists (e:=fun _=>true) pl.isList pl2.isList (by show its.length=its2.length;lia) (by lia) (fun j a b=>absurd a (by show ¬j<its.length;lia)) _ _ _ _ ?_;rw[all_true];exact⟨.bl false,H,I,rfl,q⟩
 .have l1:its.length≠0:=fun z=>c (List.length_eq_zero_iff.mp (by rw[r.length];exact z));refine PySem.SeqAt.RcNeAt.lists_lengths pl.isList pl2.isList (by show(its.length != its2.length)=true;rw[l2];exact bne_iff_ne.mpr l1) (by lia) _ _ _ _ ?_;rw[decide_eq_true c] at q;exact⟨.bl true,H,I,rfl,q⟩
end
section
variable {X:Cx}
def Dq:V->List V->Hp->VK->Prop:=fun x xs H Q=>∃t sep:Str,x = .str t/\xs=[.str sep]/\(sep.length == 0)=false/\t.length+2<=qAg/\∀l,H l=none->Q (.ref l) (upd H l (.lst ((Txt.split t sep).map V.str)))
theorem sF:∀(ss:List Str) (n:Nat),Vals (ss.map V.str) (strsFrom n ss)
 | [],_=>.nil
 | s::ss,n=>.cons ⟨_,rfl⟩ (sF ss (n+1))
theorem sG:Iq X "str.split" Dq:=by
 intro pins s σ H x xs v us Q I rx rv h;obtain⟨t,sep,rfl,rfl,h0,hz,q⟩:=h;obtain⟨tk,rfl⟩:=(show ∃tk,v=Value.str t tk from rx);obtain⟨u,rfl,ru⟩:=rv.one;obtain⟨tu,rfl⟩:=(show ∃tu,u=Value.str sep tu from ru);have fin:∀(its:List qAi) (k:Nat),Vals ((Txt.split t sep).map V.str) its->(Txt.split t sep).length<=qAg->EP X pins σ Q (.ref s.heap.objs.size) { s with heap:=s.heap.push { cls:=.type "list",data:=.seq its.toArray },toks:=k }:=fun its k r hl =>
  ⟨.ref s.heap.objs.size,_,I.laid (t':=k) (fun b o e=>qAk _ e) (qAl _) (show dO X.prog X.w _ _ _ (.lst _) from⟨by rw[qAa];exact hl,its,_,r,qAz _ rfl⟩),rfl,q _ (I.cK.fresh (qAl _))⟩
 have kind:s.TypeIs (Value.str t tk) "str":=rfl;by_cases c1:(decide (t.length<sep.length)||decide (Builtin.Str.strKind t<Builtin.Str.strKind sep))=true
 .have e:Txt.split t sep=[t]:=by delta Txt.split;rw[if_pos c1]
  refine qHr F.slot_str_split kind F.entry_str_split (F.args_str_split_2 _ _) (meets_str_split_cannot_occur t sep tk tu c1) ?_;have z:=fin [Value.str t tk] s.toks (by rw[e];exact .cons ⟨_,rfl⟩ .nil) (by rw[e];show 1<=qAg;decide);exact z
 .have c1':(decide (t.length<sep.length)||decide (Builtin.Str.strKind t<Builtin.Str.strKind sep))=false:=Bool.eq_false_iff.mpr c1
  by_cases c2:(Builtin.Str.occurrences t sep 0 t.length (t.length+1)).isEmpty=true
  .have e:Txt.split t sep=[t]:=by delta Txt.split;rw[if_neg c1,if_pos c2]
   refine qHr F.slot_str_split kind F.entry_str_split (F.args_str_split_2 _ _) (meets_str_split_not_found t sep tk tu c1' h0 c2) ?_;have z:=fin [Value.str t tk] s.toks (by rw[e];exact .cons ⟨_,rfl⟩ .nil) (by rw[e];show 1<=qAg;decide);exact z
  .have e:Txt.split t sep=Builtin.Str.partsBetween t (Builtin.Str.occurrences t sep 0 t.length (t.length+1)) sep.length:=by delta Txt.split;rw[if_neg c1,if_neg c2]
   have hl:(Txt.split t sep).length<=qAg:=by
    have z:=qOa (l:=(Txt.split t sep).map fun s=>(s,tk)) (x:=t) (y:=sep) (by rw[qBo];exact qOk _);rw[qAa] at z;lia
   refine qHr F.slot_str_split kind F.entry_str_split (F.args_str_split_2 _ _) (meets_str_split_sep t sep tk tu c1' h0 (Bool.eq_false_iff.mpr c2) (by lia) (by rw[<- e];exact hl)) ?_;have z:=fin (strsFrom s.toks (Txt.split t sep)) (s.toks+(Txt.split t sep).length) (sF _ _) hl;rw[e] at z;exact z
def Fu:V->List V->Hp->VK->Prop:=fun x xs H Q=>∃t p:Str,x = .str t/\xs=[.str p]/\Q (.bl (Txt.startswith t p)) H
theorem pN:Iq X "str.startswith" Fu:=by
 intro pins s σ H x xs v us Q I rx rv h;obtain⟨t,p,rfl,rfl,q⟩:=h;obtain⟨tk,rfl⟩:=(show ∃tk,v=Value.str t tk from rx);obtain⟨u,rfl,ru⟩:=rv.one;obtain⟨tu,rfl⟩:=(show ∃tu,u=Value.str p tu from ru);refine call_gives F.slot_str_startswith rfl F.entry_str_startswith (F.args_str_startswith_2 _ _) (gives_str_startswith t p tk tu) ?_;exact⟨.bl _,H,I,rfl,q⟩
theorem qY:eZ X (.type "int") (fun xs H Q=>∃(x:Str) (n:Int),xs=[.str x]/\PySem.intText? x=some n/\x.length<=640/\Q (.int n) H):=by
 intro pins s σ H xs us Q I r h;obtain⟨x,n,rfl,hn,hl,q⟩:=h;obtain⟨u,rfl,t,rfl⟩:=vals1 r;exact PySem.W.KIN.call_text hn hl ⟨.int n,H,I.tok _,⟨_,rfl⟩,q⟩
def Qu:V->Option Int->Option Int->Hp->VK->Prop:=fun x lo hi H Q=>∃t:Str,x = .str t/\(Txt.slice t lo hi).length<=qAg/\Q (.str (Txt.slice t lo hi)) H
theorem Ds:LO X Qu:=by
 intro pins s σ H x v vl vu lo hi sl Q I rx hs pl pu h;obtain⟨t,rfl,hz,q⟩:=h;obtain⟨tk,rfl⟩:=(show ∃tk,v=Value.str t tk from rx);exists "str",_,F.slot_str_getitem.lookup,rfl;have part:∀{v:qAi}{o:Option Int},qJv v o->∃p:Option (Int×Tok),partValue p=v/\p.map (·.1)=o:=fun {v o} h=>by
  cases h with
  | none=>exact⟨none,rfl,rfl⟩
  | int i t=>exact⟨some (i,t),rfl,rfl⟩
 obtain⟨p1,e1,e1'⟩:=part pl;obtain⟨p2,e2,e2'⟩:=part pu;have hs':s.heap.IsSlice sl p1 p2 none:=by
  obtain⟨o,h1,h2,h3⟩:=hs;exact⟨o,h1,h2,by rw[h3,e1,e2];rfl⟩
 refine wpAny_getItem_str_slice hs' rfl ?_;have pick:slicePicked t p1 p2 none=Builtin.Str.strSliceIndices lo hi 1 t.length:=by
  subst e1' e2';rfl
 have eA:sliceMade t tk p1 p2 none=if ((Builtin.Str.strSliceIndices lo hi 1 t.length).length == t.length)=true then Made.val (Value.str t tk) else Made.str { cps:=(qIk (fun i=>t.cps[i]?) (Builtin.Str.strSliceIndices lo hi 1 t.length)).toArray }:=by
  delta sliceMade;rw[pick];rfl
 have eB:Txt.slice t lo hi=if ((Builtin.Str.strSliceIndices lo hi 1 t.length).length == t.length)=true then t else { cps:=(qIk (fun i=>t.cps[i]?) (Builtin.Str.strSliceIndices lo hi 1 t.length)).toArray }:=rfl;rw[eA];rw[eB] at q hz;by_cases c:((Builtin.Str.strSliceIndices lo hi 1 t.length).length == t.length)=true
 .rw[if_pos c] at q|-;exact⟨.str t,H,I,⟨_,rfl⟩,q⟩
 .rw[if_neg c] at q hz|-;exact⟨hz,.str _,H,I.tok _,⟨_,rfl⟩,q⟩
def Nr(t:Str):It:=⟨fun i H=>i<t.cps.size,fun i H x H'=>H'=H/\∃c,t.cps[i]?=some c/\x = .str ⟨#[c]⟩,fun i H=>i=t.cps.size⟩
def ascii(t:Str):Prop:=(t.cps.all fun x=>decide (x<128))=true
theorem Dt{P:qBl}{w:qCr}{K:qAb}{tg:Expr}(t:Str)(tk:Tok)(it:Addr):Turn P w K tg (Nr t) [it] it (fun i h=>h.IsStrIter it "str_ascii_iterator" t tk i) where
 mem:=by simp
 obj:=fun i h st b hb=>by
  have e:b=it:=by simpa using hb
  subst e;obtain⟨o,e,c,d⟩:=st;exact⟨o,e,fun v z=>by rw[d] at z;cases z⟩
 keep:=fun i h h' st k=>by
  obtain⟨o,e,c,d⟩:=st;exact⟨o,k it (by simp) o e,c,d⟩
 item:=by
  intro X hP hw hK hc i pins s σ H E I hf st hg;subst hP hw hK;have hi:i<t.cps.size:=hg;obtain⟨f0,f1,f2,f3,f4,f5⟩:=hf it (by simp);refine wpAny_pyNext_ascii_item st (c:=t.cps[i]) (qEp hi) fun h' st' sb=>?_;have I1:Inv X pins σ H { s with heap:=h',toks:=s.toks+1 }:=I.turned (t':=s.toks+1) (fun b o hb e=>(sb.2 b hb).trans e) f0 f1 f3 f4 f5;obtain⟨o,e,c,d⟩:=id st';exact⟨_,rfl,uY (s:={ s with heap:=h',toks:=s.toks+1 }) e c d #[1] ⟨.str ⟨#[t.cps[i]]⟩,H,I1,⟨_,rfl⟩,⟨rfl,_,qEp hi,rfl⟩,st',fun b hb=>(hf b hb).1⟩⟩
 done:=by
  intro X hP hw hK hc i pins s σ H E I hf st hg;subst hP hw hK;obtain rfl:i=t.cps.size:=hg;obtain⟨f0,f1,f2,f3,f4,f5⟩:=hf it (by simp);exact wpAny_pyNext_ascii_end (I.ok.hd hc) st (qKp (qAl _)) fun h' eb=>⟨rfl,I.turned (t':=s.toks) (fun b o hb e=>eb b o hb e) f0 f1 f3 f4 f5⟩
 self:=fun _ _ _ _ _ st h=>wpAny_pyIter_striter_ascii st h
def Qv(te:TE):TI:=fun σ H R=>te σ H fun x H1=>∃t:Str,x = .str t/\ascii t/\R (Nr t) H1
theorem IU{tg l:Expr}{tl:TE}(hl:PE X l tl):PI X tg l (Qv tl):=by
 intro pins s σ H R I h;refine cA (hl pins s σ H _ I h) fun v s1 z9=>?_;obtain⟨x,H1,I1,r1,q1⟩:=z9;obtain⟨t,rfl,ha,q⟩:=q1;obtain⟨tk,rfl⟩:=(show ∃tk,v=Value.str t tk from r1);refine wpAny_pyIter_strU ?_;have ety:strIterType t="str_ascii_iterator":=by
  exact if_pos ha
 rw[ety];have hit:(s1.heap.push { cls:=.type "str_ascii_iterator",data:=.fields #[.str t tk,.int 0 0] }).IsStrIter s1.heap.objs.size "str_ascii_iterator" t tk 0:=⟨_,qAz _ rfl,rfl,rfl⟩;have I2:Inv X pins σ H1 { s1 with heap:=s1.heap.push { cls:=.type "str_ascii_iterator",data:=.fields #[.str t tk,.int 0 0] } }:=I1.kept (t':=s1.toks) fun b o e=>qAk _ e;refine⟨s1.heap.objs.size,[s1.heap.objs.size],_,_,H1,rfl,I2,Dt t tk _,hit,fun b hb=>?_,q⟩;have e:b=s1.heap.objs.size:=by simpa using hb
 subst e;exact I1.qP (qAl _) (I1.cK.fresh (qAl _))
end
section
variable {X:Cx}
def Nt:TS:=fun _ _ _=>False
theorem j8{st:Stmt}:PS X st Nt:=fun _ _ _ _ _ _ h=>h.elim
theorem Fv{body suite:List Stmt}{b₀:Stmt}{x:Str}{np hpos pos:Pos}{tb:XS->TS}(hb:∀pins Ex,rG (Fd X pins Ex) body (tb Ex)):
  PS X (.Try body [.ExceptHandler (some (.Name x np)) none (b₀::suite) hpos] [] [] pos) (tb fun _ _ _=>False):=by
 intro pins s σ H D I h;refine wpAny_Try_except (qFa (hb pins _ [] s σ H D (I.MY _) h) (fun f s1 q=>?_) fun ev s1 q=>?_)
 .cases f with
  | next=>obtain⟨σ1,H1,I1,q1⟩:=q;exact qGw ⟨σ1,H1,I1.tM,q1⟩
  | brk=>obtain⟨σ1,H1,I1,q1⟩:=q;exact⟨σ1,H1,I1.tM,q1⟩
  | cont=>obtain⟨σ1,H1,I1,q1⟩:=q;exact⟨σ1,H1,I1.tM,q1⟩
  | ret u=>obtain⟨v1,σ1,H1,I1,r1,q1⟩:=q;exact⟨v1,σ1,H1,I1.tM,r1,q1⟩
 .obtain⟨e,C,σ1,H1,s2,H2,rfl,I2,F,no⟩:=q;exact no.elim
end
section
variable {K:qAb}{t:Str}{σ0:St}{H1:Hp}{i0:Nat}{c:TT}{te:TE}{Q:Addr->Hp->Prop}
theorem Du(f:Nat->Option V)(hn:t.cps.size<=qAg)
  (step:∀(i:Nat) (x:Nat) (H2:Hp) (k:VK) (k0:Hp->Prop),aJ H1 H2->t.cps[i]?=some x->(∀y,f x=some y->∀H3,aJ H2 H3->k y H3)->(f x=none->∀H3,aJ H2 H3->k0 H3) ->
   c (σ0.set i0 (some (.str ⟨#[x]⟩))) H2 fun b H4=>if b=true then te (σ0.set i0 (some (.str ⟨#[x]⟩))) H4 k else k0 H4)
  (h:∀D H2,H1 D=none->aJ H1 H2->H2 D=some (.lst (t.cps.toList.filterMap f))->Q D H2) :
  ∀D,H1 D=none->∃W:Nat->Nat->St->Hp->Prop,(∃m,W 0 m σ0 (upd H1 D (.lst [])))/\∀i m σ1 H2,W i m σ1 H2 ->
   ((Nr t).stop i H2/\Q D H2)\/((Nr t).go i H2/\∃N:St->Hp->Prop,(∀σ' H',N σ' H'->∃m',m'<m/\W (i+1) m' σ' H') /\
    ∀x H',(Nr t).tE i H2 x H'->bC i0 x σ1 H' fun σ2 H3=>c σ2 H3 fun b H4=>if b=true then te σ2 H4 fun y H5=>∃xs,H5 D=some (.lst xs)/\xs.length<qAg/\N σ2 (upd H5 D (.lst (xs++[y]))) else N σ2 H4):=by
 intro D hD;exists fun i m σ1 H2=>σ1.set i0 none=σ0.set i0 none/\aJ H1 H2/\H2 D=some (.lst ((t.cps.toList.take i).filterMap f))/\i<=t.cps.size/\m=t.cps.size-i,⟨t.cps.size,rfl,.aI hD,aC,qBf _,rfl⟩;rintro i m σ1 H2 ⟨hσ,hs,hd,hi,rfl⟩;have hset:∀v:Option V,σ1.set i0 v=σ0.set i0 v:=fun v=>by
  have z:=congrArg (fun l=>qIc l i0 v) hσ;simpa using z
 rcases qBj i t.cps.size with hlt | hge
 .right
  refine⟨hlt,fun σ' H'=>σ'.set i0 none=σ0.set i0 none/\aJ H1 H'/\H' D=some (.lst ((t.cps.toList.take (i+1)).filterMap f)),(by rintro σ' H' ⟨a,b,c⟩;exact ⟨t.cps.size-(i+1),by lia,a,b,c,hlt,rfl⟩),?_⟩;rintro v H' ⟨rfl,x,hx,rfl⟩;have et:t.cps.toList.take (i+1)=t.cps.toList.take i++[x]:=by
   rw[List.take_add_one,qHp,hx];rfl
  show c (σ1.set i0 (some (.str ⟨#[x]⟩))) _ _;rw[hset];refine step i x _ _ _ hs hx (fun y hy H3 hs3=>⟨_,hs3 _ _ hd,?_,?_,?_,?_⟩) fun hno H3 hs3=>⟨?_,hs.trans hs3,?_⟩
  .refine qBi (qCy _ _) ?_;rw[qEl];lia
  .simp
  .exact(hs.trans hs3).upd_ne' hD
  .rw[aC,et,qBy];simp[hy]
  .simp
  .rw[hs3 _ _ hd,et,qBy];simp[hno]
 .left
  obtain rfl:i=t.cps.size:=qDe hi hge;refine⟨rfl,h D _ hD hs ?_⟩;rw[hd,qDw (by rw[qCa];exact qAl _)]
end
section
open AutoSeq1 (wpAny_loadPart')
set_option maxHeartbeats 2000000 in
theorem mY(l:Addr)(items:Array qAi)(n:Nat)(dct:Option Addr)(sl:Array (Option qAi))(i:Int)(tk:Tok)(hi:Builtin.SmallTypes.fitsIndex i=true):
  Meets (Builtin.«enumerate.__new__» ⟨[.type "enumerate",.ref l],[("start",.int i tk)]⟩) (fun _ R s=>s.heap.get? l=some { cls:=.type "list",dict:=dct,data:=.seq items n,slots:=sl } /\
   R (.ok (.ret (.ref (s.heap.push { cls:=.type "list_iterator",data:=.fields #[.ref l,.int 0 0] }).objs.size)))
    { s with heap:=(s.heap.push { cls:=.type "list_iterator",data:=.fields #[.ref l,.int 0 0] }).push { cls:=.type "enumerate",data:=.fields #[.none,.bool false,.ref s.heap.objs.size,qLb i,.none,.none] } }) :=
 .of_wp fun prog w A R s h=>by
  obtain⟨hp,g,d,tk,os⟩:=s;obtain⟨hl,h⟩:=h;have hsub:=sub_enumerate;have hL:Heap.IsList (Shared.heap ⟨hp,g,d,tk,os⟩) l items:=⟨_,hl,rfl,n,rfl⟩;wp_walk using wpAny_loadPart' hl;refine wpAny_stack_any fun st=>qAm ?_;split
  .rename_i c _ _ _ _ _;cases (c == Value.type "enumerate")
   .wp_walk using wpAny_loadPart' hl,qEa hL
    exact⟨_,rfl,h⟩
   .wp_walk using wpAny_loadPart' hl,qEa hL
    exact⟨_,rfl,h⟩
  .wp_walk using wpAny_loadPart' hl,qEa hL
   exact⟨_,rfl,h⟩
end
theorem oA(a b:qAi):checkTypeCall "enumerate" ⟨[a],[("start",b)]⟩=pure ():=by kernel_rfl
theorem pO(a b:qAi):checkBuiltinCall "enumerate.__new__" ⟨[.type "enumerate",a],[("start",b)]⟩=pure ():=by kernel_rfl
theorem qZ(obj a b:qAi):argsOk "object.__init__" ⟨[obj,a],[("start",b)]⟩:=by
 kernel_rfl
theorem vZ
  (tc:TypeCalled T newId initId) (hck:checkTypeCall T { pos:=args,kw:=kw }=pure ()) (hi:entryFor table initId=some Bi)
  (hn:qHb (qCb prog w) A.in1 (Code.call (Value.builtin newId) { pos:=Value.type T::args,kw:=kw }) (wants Q₁ E) s)
  (hin:∀obj s₁,Q₁ obj s₁->s₁.TypeIs obj T/\argsOk initId { pos:=obj::args,kw:=kw } /\
   qBs (qCb prog w) A.in1.in1 (Bi { pos:=obj::args,kw:=kw }) (fun fin s'=>fin=Fin.done (Flow.ret Value.none)/\Q obj s') E s₁) :
  qBs (qCb prog w) A (call (Value.type T) args kw) Q E s:=by
 refine qGg (codeAny_of_tree ?_);refine qAm (a:=Fin.again (Code.builtin "type.__call__" { pos:=Value.type T::args,kw:=kw })) ?_;refine⟨Code.quiet_builtin _ #[2],qHa F.entry_type_call ?_⟩;rw[Around.under_plain (weight_type_call_type T args kw) (units_type_call_type T args kw)];refine qGv (decide_eq_false (by rw[tc.notType];decide)) ?_;refine qGv (decide_eq_false (by rw[tc.canCreate];decide)) ?_;refine qAd (qFd hck ?_);obtain⟨c,tl,hm⟩:=tc.mro;refine qAd (qFd hm ?_);refine qGv rfl ?_;refine qAd (qFd tc.made ?_);refine qAd (qAm ?_);refine qAd (qCm (qGg (qFy hn fun r s1 h=>?_)));match r,h with
 | .error e,h=>exact h
 | .ok (.ret obj),h =>
  obtain⟨ty,ao,run⟩:=hin obj s1 h;refine qAd (wpAny_isInstance ty tc.sub ?_);refine qGv rfl ?_;refine qAd (qCm ?_);refine qAd (wpAny_specialOf ty tc.init.lookup ?_);refine qCm ?_;refine qAd (qFd (tc.init.bind obj) ?_);refine qAd (qGg (qGq tc.init.plain hi ?_));refine tc.init.check _ _ _ _ _ _ _ _ ty ao ?_;refine qFa run (fun f s2 z=>?_) fun e s2 z=>z;obtain⟨rfl,q⟩:=z;refine qAm ?_;refine qGv #[1] ?_;exact qAm q
theorem tX
  (hl:typeLookup (.type T) "__init__"=pure (some (.builtin "object.__init__"))) (hm:Bind.madeBy (.type T)=pure (some newId)) (hne:(some newId != some "object.__new__")=true)
  (hT:s.TypeIs obj T) (q:Q (Fin.done (Flow.ret Value.none)) s):qBs (qCb prog w) A (Builtin.«object.__init__» { pos:=[obj,a],kw:=kw }) Q E s:=by
 repeat (any_goals (first | assumption | wp_step))
theorem oB(hi:Builtin.SmallTypes.fitsIndex i=true){Q:qAi->qAp->Prop}(hL:s.heap.IsList l items)
  (h:∀h',IsEnum h' (s.heap.objs.size+1) s.heap.objs.size i .none->h'.IsListIter s.heap.objs.size l 0 ->
   (∀b o,s.heap.get? b=some o->h'.get? b=some o)->Q (.ref (s.heap.objs.size+1)) { s with heap:=h' }) :
  qBs (qCb prog w) A (call (.type "enumerate") [.ref l] [("start",.int i tk)]) Q E s:=by
 obtain⟨⟨c,dct,dt,sl⟩,hl,hc,n,hd⟩:=hL;replace hc:c = .type "list":=hc;replace hd:dt = .seq items n:=hd;subst hc hd;have hz:(s.heap.push { cls:=.type "list_iterator",data:=.fields #[.ref l,.int 0 0] }).objs.size=s.heap.objs.size+1:=qGu ..;have he:IsEnum ((s.heap.push { cls:=.type "list_iterator",data:=.fields #[.ref l,.int 0 0] }).push
   { cls:=.type "enumerate",data:=.fields #[.none,.bool false,.ref s.heap.objs.size,qLb i,.none,.none] }) (s.heap.objs.size+1) s.heap.objs.size i .none:=by
  have:=qAz (s.heap.push { cls:=.type "list_iterator",data:=.fields #[.ref l,.int 0 0] })
   (o:={ cls:=.type "enumerate",data:=.fields #[.none,.bool false,.ref s.heap.objs.size,qLb i,.none,.none] }) rfl
  rw[hz] at this;exact this
 refine vZ F.called_enumerate (oA _ _) F.entry_object_init
  (qGq F.called_enumerate.plain F.entry_enumerate_new (qFd (pO _ _) (mY l items n dct sl i tk hi prog w A.in1 (wants (fun obj s₁=>s₁.TypeIs obj "enumerate"/\Q obj s₁) E) s ⟨hl,?_⟩)))
  (fun obj s₁ z=>⟨z.1,qZ _ _ _,tX F.called_enumerate.init.lookup F.called_enumerate.made #[1] z.1 ⟨rfl,z.2⟩⟩)
 show _/\_;rw[hz];exact⟨⟨_,he,rfl⟩,h _ he ⟨_,qAk _ (qAz _ rfl),rfl,rfl⟩ fun b o x=>qAk _ (qAk _ x)⟩
theorem wB{prog:qBl}{w:qCr}{A:qDf}{it:Addr}{fp:List Addr}{n:Nat}{P:Nat->qAi->Prop}{St:Nat->Heap->Prop}(D:Draws prog w A it fp n P St):Draws prog w A it fp (n+1) (fun i x=>P (i-1) x) (fun i h=>1<=i/\St (i-1) h) where
 live:=fun _ _ st=>D.live _ _ st.2
 frame:=fun _ _ _ st hk=>⟨st.1,D.frame _ _ _ st.2 hk⟩
 item:=fun i s Q E hi st hQ=>D.item (i-1) s Q E (by have:=st.1;lia) st.2 fun x h' tk p st' sb=>hQ x h' tk p ⟨by lia,by rw[show i+1-1=i-1+1 by have:=st.1;lia];exact st'⟩ sb
 done:=fun s Q E st hE=>D.done s Q E st.2 hE
def Dv(K:qAb)(l:Addr):It :=
  ⟨fun i H=>∃xs x,aV K H l xs/\xs[i]?=some x,
   fun i H v H'=>∃t x,v = .ref t/\H t=none/\H'=upd H t (.tup [.int ((i:Int)+1),x])/\∀xs,aV K H l xs->xs[i]?=some x,
   fun i H=>∃xs,aV K H l xs/\xs.length<=i⟩
def Fw(e it l:Addr)(i:Nat)(h:Heap):Prop:=(∃old,IsEnum h e it ((i+1:Nat):Int) old)/\h.IsListIter it l i
theorem yX{P:qBl}{w:qCr}{K:qAb}{elts:List Expr}{x1}{pos:Pos}{e it l:Addr}(hne:e≠it):
  Turn P w K (.Tuple elts x1 pos) (Dv K l) [e,it] e (Fw e it l) where
 mem:=by simp
 obj:=fun i h ⟨⟨old,he⟩,⟨o,ho,_,d⟩⟩ b hb=>by
  simp only[qEe,qCs,or_false] at hb;rcases hb with rfl | rfl
  .exact⟨_,he,fun v q=>nomatch q⟩
  .exact⟨_,ho,fun v q=>by rw[d] at q;cases q⟩
 keep:=fun i h h' ⟨⟨old,he⟩,h1⟩ k=>⟨⟨old,k e (by simp) _ he⟩,h1.at fun o q=>k it (by simp) o q⟩
 item:=by
  intro X hP hw hK hc i pins s σ H E I hf st hg;subst hP hw hK;obtain⟨⟨old,he⟩,h1⟩:=st;obtain⟨xs,x,q1,hx⟩:=hg;obtain⟨its1,r1,p1,z1⟩:=I.list q1;obtain⟨u,hu,ru⟩:=r1.get hx;have hil:=p1.isList;have nli:l≠it:=fun z=>by
   subst z;obtain⟨o,ho,c,_⟩:=hil;obtain⟨o',ho',c',_⟩:=h1;rw[ho] at ho';cases ho';rw[c] at c';exact absurd c' #[1]
  have nle:e≠l:=fun z=>by
   subst z;obtain⟨o,ho,c,_⟩:=hil;rw[show s.heap.get? e=_ from he] at ho;cases ho;exact absurd (show Value.type "enumerate"=Value.type "list" from c) #[1]
  have hlt:i<its1.toArray.size:=by
   have:=List.getElem?_eq_some_iff.mp hu;obtain⟨z,_⟩:=this;simpa using z
  have D:Draws X.prog X.w X.A.in1 it [it,l] (its1.toArray.size+1) (fun i v=>its1.toArray[i-1]?=some v) (fun i h=>1<=i/\h.IsListIter it l (i-1)/\h.IsList l its1.toArray):=wB (Draws.list (A:=X.A.in1) (I.ok.hd hc) it l nli its1.toArray);refine wpAny_pyNext_enum_itemD (i:=i+1) D he ⟨qJn (qBf i),h1,hil⟩ (Nat.succ_lt_succ hlt) hne (fun z=>by rcases List.mem_cons.mp z with z | z;exact hne z;exact nle (List.mem_singleton.mp z)) fun u' h' tk pu a1 a2 a3 a4 a5=>⟨_,rfl,?_⟩
  have eu:u'=u:=by
   have z:its1.toArray[i]?=some u':=pu;rw[show its1.toArray[i]?=its1[i]? by simp,hu] at z;exact(Option.some.inj z).symm
  subst eu;refine wpAny_letOwnedTupleGo_enum a1 fun h'' b1 hs=>?_;have lt:∀c o,s.heap.get? c=some o->c≠s.heap.objs.size:=fun c o e=>qBk (qAy e);have lte:s.heap.objs.size≠e:=(lt e _ he).symm;have I1:Inv X pins σ H { s with heap:=h'',toks:=tk+1 }:=I.oJ (t':=tk+1) (fun c o hb e=>(hs.2 c (fun q=>hb (by simp[q]))).trans (a5 c o (fun q=>hb (by simp[q])) (fun q=>hb (by simp[q])) e)) hf;have ht:h''.get? s.heap.objs.size=some { cls:=.type "tuple",data:=.seq #[.int ((i+1:Nat):Int) tk,u'] }:=(hs.2 _ lte).trans a3;have hn:H s.heap.objs.size=none:=I.cK.fresh (qAl _);have I2:Inv X pins σ (upd H s.heap.objs.size (.tup [.int ((i:Int)+1),x])) { s with heap:=h'',toks:=tk+1 }:=by
   refine I1.GH hn (qIh I.sz) (qBk I.lt).symm (fun y c q=>?_) (fun p hp=>?_) (I.HV (qAl _)) ⟨kY,[.int ((i+1:Nat):Int) tk,u'],.cons ⟨_,rfl⟩ (.cons ru .nil),_,ht,rfl,_,rfl⟩
   .obtain⟨_,o,ho,_⟩:=I.cell y c q;exact lt c o ho
   .exact lt _ _ (I.pin p hp).1
  refine⟨.ref s.heap.objs.size,_,I2,rfl,⟨_,x,rfl,hn,rfl,fun xs' q=>?_⟩,⟨⟨u',?_⟩,a2.2.1.at fun o e=>(hs.2 _ hne.symm).trans e⟩,fun c hb=>?_⟩
  .rw[I.oX q q1];exact hx
  .rw[show((i+1+1:Nat):Int)=((i+1:Nat):Int)+1 by push_cast;rfl];exact b1
  .obtain⟨o,ho,_⟩:∃o,s.heap.get? c=some o/\True:=by
    simp only[qEe,qCs,or_false] at hb;rcases hb with rfl | rfl
    .exact⟨_,he,trivial⟩
    .obtain⟨o,ho,_⟩:=h1;exact⟨o,ho,trivial⟩
   rw[aQ (lt c o ho)];exact(hf c hb).1
 done:=by
  intro X hP hw hK hc i pins s σ H E I hf st hg;subst hP hw hK;obtain⟨⟨old,he⟩,h1⟩:=st;obtain⟨xs,q1,hend⟩:=hg;obtain⟨its1,r1,p1,z1⟩:=I.list q1;have e1:=r1.length;have hil:=p1.isList;have hno:its1.toArray[i]?=none:=by simp;lia
  have D:Draws X.prog X.w X.A.in1 it [it,l] 0 (fun _ _=>True) (fun _ h=>h.IsListIter it l i/\h.IsList l its1.toArray):=⟨fun _ _ st=>let ⟨o,ho,_⟩:=st.1;⟨o,ho⟩,fun _ _ _ st hk=>⟨st.1.at fun o e=>hk it (by simp) o e,st.2.at fun o e=>hk l (by simp) o e⟩,fun _ _ _ _ hi=>absurd hi (qMz _),fun s Q E st hE=>wpAny_nextOf_list_end (I.ok.hd hc) st.1 st.2 hno hE⟩;exact wpAny_pyNext_enum_endD D he ⟨h1,hil⟩ fun h' k=>⟨rfl,I.oJ (t':=s.toks) (fun c o hb e=>k c o (fun q=>hb (by simp[q])) e) hf⟩
 self:=fun _ _ _ _ _ ⟨⟨_,he⟩,_⟩ h=>qHq he h
def IV(K:qAb)(ta:TA):TI:=fun σ H R=>ta σ H fun vs H1=>∃l,vs=[.ref l]/\(∃xs,aV K H1 l xs)/\R (Dv K l) H1
theorem Dw{X:Cx}{elts:List Expr}{x1}{tpos:Pos}{a e:Expr}{ta:TA}{p pos kp:Pos}(hg:Gl X "enumerate")(hm:X.mg "enumerate"=none)(ha:PA X [a] ta)(hk:PE X e (tC (.int 1)))
  (he:qBx [a] X.env=[(false,eval a X.env)]:=by rfl) (hpl:((qFb pos (qBx [a] X.env)).any (·.1)||(qGt pos (qEw [⟨some "start",e,kp⟩] X.env)).any (·.1.isNone))=false:=by rfl)
  (hall:(qGt pos (qEw [⟨some "start",e,kp⟩] X.env)).all (·.1.isSome)=true:=by rfl) (hks:(qGt pos (qEw [⟨some "start",e,kp⟩] X.env)).filterMap (·.1)=[("start":Str)]:=by rfl) :
  PI X (.Tuple elts x1 tpos) (.Call (.Name "enumerate" p) [a] [⟨some "start",e,kp⟩] pos) (IV X.K ta):=by
 intro pins s σ H R I h;refine qEq (jK I hg hm z7 ?_ #[1] #[1]);refine PySem.W.callWith_of (P:=fun _=>True) hpl (fun _ _=>⟨.machine,.inr (.inl rfl),PySem.W.Looks.of_pure rfl⟩) (qOc hall (cA (ha pos pins s σ H _ I h) fun us s1 z9=>?_) he);obtain⟨vs,H1,I1,r1,q1⟩:=z9;obtain⟨l,e1,⟨xs,q1⟩,q⟩:=q1;subst e1;refine cA (ET hk Ik pos pins s1 σ H1 (fun zs H2=>zs=[.int 1]/\H2=H1) I1 ⟨rfl,rfl⟩) fun ws s2 ⟨zs,H2,I2,rz,ez,eh⟩=>⟨trivial,?_⟩;subst ez eh;obtain⟨u,rfl,ru⟩:=vals1 r1;cases (show u=Value.ref l from ru);obtain⟨k1,rfl,rk⟩:=vals1 rz;obtain⟨tk,rfl⟩:=(show ∃tk,k1=Value.int 1 tk from rk);rw[hks];obtain⟨its1,r1,p1,z1⟩:=I2.list q1;refine oB #[1] p1.isList fun h' hE hI hk=>?_;refine qHq hE ?_;have I3:Inv X pins σ H2 { s2 with heap:=h' }:=I2.kept (t':=s2.toks) hk;refine⟨_,[s2.heap.objs.size+1,s2.heap.objs.size],_,_,H2,rfl,I3,yX (qMt _),⟨⟨_,hE⟩,hI⟩,fun c hc=>?_,q⟩;have hge:s2.heap.objs.size<=c:=by
  simp only[qEe,qCs,or_false] at hc;rcases hc with h | h
  all_goals first | (rw[h];exact qHm _ _) | exact qJj h.symm
 have:=I2.qP (H':=H2) hge (I2.cK.fresh hge);exact this
theorem Bo{K:qAb}{l:Addr}{xs:List V}{g:TG}{tb:TS}{D:Ends}{σ:St}{H:Hp}(Pv:Nat->St->Hp->Prop)(h0:Pv 0 σ H)(hl:∀i σ H,i<=xs.length->Pv i σ H->aV K H l xs)
  (hs:∀i x t σ H,xs[i]?=some x->H t=none->Pv i σ H->g (.ref t) σ (upd H t (.tup [.int ((i:Int)+1),x])) fun σ2 H2=>tb { D with nx:=Pv (i+1),ct:=Pv (i+1),bk:=D.nx } σ2 H2) (hd:∀σ H,Pv xs.length σ H->D.nx σ H) :
  ∃W:Nat->Nat->St->Hp->Prop,(∃m,W 0 m σ H)/\∀i m σ H,W i m σ H ->
   ((Dv K l).stop i H/\D.nx σ H)\/((Dv K l).go i H/\∃N:St->Hp->Prop,(∀σ' H',N σ' H'->∃m',m'<m/\W (i+1) m' σ' H')/\∀x H',(Dv K l).tE i H x H'->g x σ H' fun σ2 H2=>tb { D with nx:=N,ct:=N,bk:=D.nx } σ2 H2):=by
 exists fun i m σ H=>Pv i σ H/\i<=xs.length/\m=xs.length-i,⟨_,h0,qBf _,rfl⟩;rintro i m σ H ⟨hp,hi,rfl⟩;have q1:=hl i σ H hi hp;rcases qBj i xs.length with hlt | hge
 .right
  obtain⟨x,hx⟩:∃x,xs[i]?=some x:=⟨_,qAc hlt⟩;refine⟨⟨xs,x,q1,hx⟩,Pv (i+1),fun σ' H' h=>⟨_,qLz hlt (qFi _),h,hlt,rfl⟩,?_⟩;rintro v H' ⟨t,x',rfl,hn,rfl,e1⟩;have e1':=e1 xs q1;rw[hx] at e1';cases e1';exact hs i x t σ H hx hn hp
 .left
  obtain rfl:i=xs.length:=qDe hi hge;exact⟨⟨xs,q1,qAl _⟩,hd σ H hp⟩
open PySem.StrLaws PySem.Builtin PySem.Builtin.Str
section
theorem Nu(hy:y.cps.toList=c::r){k:Nat}(h:At x y x.length k):x.cps.toList[k]?=some c:=by
 have z:=h.2;rw[subAt_eq] at z;have z:=eq_of_beq z;have ly:y.length=r.length+1:=by
  have:y.length=y.cps.toList.length:=by simp[Str.length]
  rw[this,hy];rfl
 rw[hy,ly] at z;have e:=congrArg (fun l=>l[0]?) z;rw[qHe (by lia),qMe] at e;exact e
theorem yY(hy:y.cps.toList=c::r):∀(ps:List Str) (a f:Nat) (cuts:List Nat),ps≠[]->a<=x.length->x.cps.toList.drop a=(Str.join y ps).cps.toList->(∀p∈ps,c∉p.cps.toList) ->
  ChainG x y x.length a cuts f->(∀k,f<=k->¬At x y x.length k)->partsFrom x y.length a cuts=ps:=by
 have hn:x.cps.toList.length=x.length:=by simp[Str.length]
 have ly:y.length=r.length+1:=by
  have:y.length=y.cps.toList.length:=by simp[Str.length]
  rw[this,hy];rfl
 have mem_at:∀{a k:Nat}{L:List Nat},x.cps.toList.drop a=L->a<=k->x.cps.toList[k]?=some c->L[k-a]?=some c:=fun {a k L} e h1 h2=>by
  rw[<- e,qMe,show a+(k-a)=k by lia];exact h2
 intro ps;induction ps with
 | nil=>intro a f cuts h;exact absurd rfl h
 | cons p t ih =>
  intro a f cuts _ ha hx hp hG hN;cases t with
  | nil =>
   have hx:x.cps.toList.drop a=p.cps.toList:=hx;cases cuts with
   | cons d q =>
    have z:=mem_at hx hG.1 (Nu hy hG.2.1);exact absurd (qAq z) (hp p qBn)
   | nil =>
    show [strSub x a x.length]=[p];refine congrArg (fun z=>[z]) ?_;apply Str.ext';apply Array.toList_inj.mp;rw[strSub_toList,qDw (by rw[qDn,hn];exact qAl _),hx]
  | cons q t =>
   have hx:x.cps.toList.drop a=(p++y++Str.join y (q::t)).cps.toList:=hx;rw[Str.cps_append,Str.cps_append,qDk,qDk] at hx;have lp:p.cps.toList.length=p.length:=by simp[Str.length]
   have lyl:y.cps.toList.length=y.length:=by simp[Str.length]
   have tot:x.length-a=p.length+y.length+(Str.join y (q::t)).cps.toList.length:=by
    have z:=congrArg qOl hx;rw[qDn,qAo,qAo,hn,lp,lyl] at z;exact z
   have hat:At x y x.length (a+p.length):=by
    refine⟨by lia,?_⟩;rw[subAt_eq,<- qKl,hx,qDy,<- lp,qKk,<- lyl,qNb];exact beq_self_eq_true _
   have hd:∃rest,cuts=(a+p.length)::rest/\ChainG x y x.length (a+p.length+y.length) rest f:=by
    cases cuts with
    | nil =>
     have e:f=a:=hG;exact absurd hat (hN _ (by lia))
    | cons d rest =>
     obtain⟨h1,h2,h3,h4⟩:=hG;rcases qHg d (a+p.length) with h | h | h
     .have z:=mem_at hx h1 (Nu hy h2);rw[qDy,qBu (by rw[lp];lia)] at z;exact absurd (qAq z) (hp p qBn)
     .subst h;exact⟨rest,rfl,h4⟩
     .exact absurd hat (h3 _ (by lia) h)
   obtain⟨rest,rfl,hG'⟩:=hd;show strSub x a (a+p.length)::partsFrom x y.length (a+p.length+y.length) rest=p::q::t;have e1:strSub x a (a+p.length)=p:=by
    apply Str.ext';apply Array.toList_inj.mp;rw[strSub_toList,hx,show a+p.length-a=p.cps.toList.length by rw[lp];lia,qDy,qNb]
   rw[e1,ih (a+p.length+y.length) f rest (fun z=>nomatch z) (by lia) ?_ (fun s hs=>hp s (qAs _ hs)) hG' hN];rw[qNs,<- qKl,hx,<- qKl,<- lp,qDy,qKk,<- lyl,qKk]
theorem Fx(x:Str):1<=Builtin.Str.strKind x:=by
 delta Builtin.Str.strKind;split
 .exact qAl _
 .split <;> decide
theorem pP(hy:y.cps.toList=c::r)(hk:Builtin.Str.strKind y=1){ps:List Str}(h0:ps≠[])(hp:∀p∈ps,c∉p.cps.toList):Txt.split (Txt.join y ps) y=ps:=by
 have ej:Txt.join y ps=Str.join y ps:=glued_eq_join y ps;rw[ej];have ly:y.length=r.length+1:=by
  have:y.length=y.cps.toList.length:=by simp[Str.length]
  rw[this,hy];rfl
 obtain⟨f,hG,hn⟩:=occ_tight (Str.join y ps) y (by lia);have key:=yY (x:=Str.join y ps) hy ps 0 f _ h0 (qBf _) rfl hp hG hn;delta Txt.split;split
 .rename_i hc;rw[qDs,decide_eq_true_eq,decide_eq_true_eq,hk] at hc;have:=Fx (Str.join y ps);have hlt:(Str.join y ps).length<y.length:=by lia
  generalize occurrences (Str.join y ps) y 0 (Str.join y ps).length ((Str.join y ps).length+1)=cuts at key hG;cases cuts with
  | nil =>
   have key:[strSub (Str.join y ps) 0 (Str.join y ps).length]=ps:=key;rw[sub_whole] at key;exact key
  | cons d q =>
   have:=hG.2.1.1;lia
 .split
  .rename_i he;have e0:=List.isEmpty_iff.mp he;rw[e0] at key;have key:[strSub (Str.join y ps) 0 (Str.join y ps).length]=ps:=key;rw[sub_whole] at key;exact key
  .rw[partsBetween_eq];exact key
def dg(m:Nat):List Nat:=(qIb 10 m).map Char.toNat
def nW(i:Int):Str:=Str.ofString (toString i)
theorem mZ(m:Nat):(nW (m:Int)).cps.toList=dg m:=PySem.W.KIN.signs_num m
theorem tY(k:Nat):(nW (qGp k)).cps.toList=45::dg (k+1):=by
 delta nW;rw[signs_ofString];show(("-":String)++Nat.repr (k+1)).toList.map Char.toNat=_;rw[String.toList_append,qBw,Nat.toList_repr];rfl
theorem tZ(m:Nat):PySem.NumText.AllDigits (dg m):=by
 intro c hc;obtain⟨ch,hch,e⟩:=List.mem_map.mp hc;have r:=digit_range (Nat.isDigit_of_mem_toDigits #[1] #[1] hch);rw[<- e];exact r
theorem Ac(m:Nat):dg m≠[]:=by
 intro e;have h:=PySem.W.KIN.val_back m;have h0:qIb 10 m=[]:=List.map_eq_nil_iff.mp e;have:=toDigits_len_ge 10 m;rw[h0] at this;exact absurd this #[1]
theorem Fy:∀(m:Nat),(dg m)[0]?=some 48->m=0:=by
 intro m;induction m using qMy with
 | _ m ih =>
  intro h;by_cases hm:m<10
  .delta dg at h;rw[Nat.toDigits_of_lt_base hm] at h;have h:(Nat.digitChar m).toNat=48:=Option.some.inj h;have z:=PySem.W.KIN.digit_back m hm;lia
  .exfalso;have hr:m%10<10:=Nat.mod_lt m #[1];have t:qIb 10 (m/10)++qIb 10 (m%10)=qIb 10 (10*(m/10)+m%10):=Nat.toDigits_append_toDigits #[1] (by lia) hr;rw[Nat.div_add_mod] at t;have e:dg m=dg (m/10)++dg (m%10):=by
    delta dg;rw[<- t,qBw]
   rw[e] at h;have ne:=Ac (m/10);have pos:0<(dg (m/10)).length:=List.length_pos_iff.mpr ne;rw[qBu pos] at h;have:=ih (m/10) (by lia) h;lia
theorem yZ(hk:0<k)(h:m<10^k):(dg m).length<=k:=by
 have z:=toString_length_le (v:=(m:Int)) (qDu m) hk (by exact_mod_cast h);have e:(Str.ofString (toString (m:Int))).length=(Str.ofString (toString (m:Int))).cps.toList.length:=by simp[Str.length]
 rw[e,PySem.W.KIN.signs_num] at z;exact z
theorem str_len(x:Str):x.length=x.cps.toList.length:=by simp[Str.length]
theorem IW(h:i.natAbs<10^60):PySem.intText? (nW i)=some i/\(nW i).length<=640:=by
 cases i with
 | ofNat m =>
  have e:=mZ m;have hl:(nW (m:Int)).length<=60:=by rw[str_len,e];exact yZ #[1] h
  refine⟨?_,qAx hl #[1]⟩;have z:=PySem.intText_digits (x:=nW (m:Int)) (by rw[e];exact tZ m) (by rw[e];exact Ac m) (qAx hl #[1]);rw[e] at z;rw[show PySem.NumText.digitsVal (dg m)=m from PySem.W.KIN.val_back m] at z;exact z
 | negSucc k =>
  have e:=tY k;have hl:(nW (qGp k)).length<=61:=by rw[str_len,e];exact qJn (yZ #[1] h)
  refine⟨?_,qAx hl #[1]⟩;have z:=PySem.intText_neg e (tZ _) (Ac _) (qAx hl #[1]);rw[show PySem.NumText.digitsVal (dg (k+1))=k+1 from PySem.W.KIN.val_back (k+1)] at z;exact z
theorem Dx{x:Str}(h:∀c∈x.cps.toList,c<128):(x.cps.all fun x=>decide (x<128))=true:=by
 rw[<- Array.all_toList,qJm];intro c hc;exact decide_eq_true (h c hc)
theorem Ad{x y:Str}(h:x.cps.toList=y.cps.toList):x=y:=Str.ext' (Array.toList_inj.mp h)
theorem pQ(x:Str){k:Nat}(hk:k<=x.length):(Txt.slice x (some (k:Int)) none).cps.toList=x.cps.toList.drop k:=by
 have hn:x.cps.toList.length=x.length:=by simp[Str.length]
 have e:Txt.slice x (some (k:Int)) none=if ((strSliceIndices (some (k:Int)) none 1 x.length).length == x.length)=true then x else ⟨(qIk (fun i=>x.cps[i]?) (strSliceIndices (some (k:Int)) none 1 x.length)).toArray⟩:=rfl;rw[e,sliceIdx_none_hi];split
 .rename_i h;rw[strSliceIndices_plain hk (qAl _),qAa,qBg] at h;have h:=eq_of_beq h;have:k=0:=by lia
  subst this;rfl
 .show qIk _ _=_;rw[sliced_plain x hk (qAl _),qDw (by rw[qDn,hn];exact qAl _)]
theorem pR(x:Str)(c:Nat):Txt.startswith x ⟨#[c]⟩=decide (x.cps.toList[0]?=some c):=by
 have z:=subAt_one x c 0;delta Txt.startswith
 by_cases h:x.cps.toList[0]?=some c
 .obtain⟨h1,h2⟩:=z.mpr h;rw[decide_eq_true h,h2,decide_eq_true h1];rfl
 .rw[decide_eq_false h];refine Bool.eq_false_iff.mpr fun y=>h (z.mp ?_);rw[qAv,decide_eq_true_eq] at y;exact y
def iH(n:Int):Str:=nW (n.natAbs:Int)
theorem sH(n:Int):Txt.startswith (nW n) ("-":Str)=decide (n<0):=by
 rw[show("-":Str)=⟨#[45]⟩ from rfl,pR];cases n with
 | ofNat m =>
  rw[show nW (Int.ofNat m)=nW (m:Int) from rfl,mZ,decide_eq_false (show ¬Int.ofNat m<0 from Int.not_lt.mpr (qDu m))];refine decide_eq_false fun h=>?_;have:=tZ m 45 (qAq h);lia
 | negSucc k =>
  rw[tY,decide_eq_true (show qGp k<0 by lia)];rfl
theorem IX{n:Int}(h:n<0):Txt.slice (nW n) (some 1) none=iH n:=by
 refine Ad ?_;cases n with
 | ofNat m=>exact absurd h (Int.not_lt.mpr (qDu m))
 | negSucc k =>
  have hl:1<=(nW (qGp k)).length:=by rw[str_len,tY];exact qJn (qBf _)
  have z:=pQ (nW (qGp k)) (k:=1) hl;rw[tY] at z;refine Eq.trans z ?_;delta iH;rw[show((qGp k).natAbs:Int)=((k+1:Nat):Int) from rfl,mZ];rfl
theorem Dy(h:¬n<0):nW n=iH n:=by
 delta iH;rw[show(n.natAbs:Int)=n by lia]
theorem Dz(hk:0<k)(h:n.natAbs<10^k):1<=(iH n).length/\(iH n).length<=k:=by
 delta iH;rw[str_len,mZ];exact⟨List.length_pos_iff.mpr (Ac _),yZ hk h⟩
theorem Bp:Txt.startswith (iH n) ("0":Str)=true->nW n=("0":Str):=by
 rw[show("0":Str)=⟨#[48]⟩ from rfl,pR];intro h;have h:=of_decide_eq_true h;unfold iH at h;rw[mZ] at h;have z:=Fy _ h;have:n=0:=by lia
 subst this;rfl
theorem wC(h:c∈(iH n).cps.toList):48<=c/\c<=57:=by
 delta iH at h;rw[mZ] at h;exact tZ _ c h
theorem Fz(h:48<=c/\c<=57):(!(Builtin.Str.occurrences ("0123456789":Str) ⟨#[c]⟩ 0 ("0123456789":Str).length 1).isEmpty)=true:=by
 rw[found_one];have e:("0123456789":Str).cps.toList=[48,49,50,51,52,53,54,55,56,57]:=by decide +kernel
 rw[e];refine decide_eq_true ?_;have:c=48\/c=49\/c=50\/c=51\/c=52\/c=53\/c=54\/c=55\/c=56\/c=57:=by lia
 rcases this with h | h | h | h | h | h | h | h | h | h <;> subst h <;> decide
theorem t5(hc:c≠45/\(c<48\/57<c))(n:Int):c∉(nW n).cps.toList:=int_text_free' c hc n
theorem oP{a:Nat}(h:a<6):nW (a:Int)=⟨#[48+a]⟩:=by
 have:∀a:_root_.Fin 6,nW ((a.1:Nat):Int)=⟨#[48+a.1]⟩:=by decide +kernel
 exact this ⟨a,h⟩
end
end L2
namespace HT
open PySem PyProof.Rows
def iS:List Int->List Int->Bool
 | [],[]=>true
 | [],_::_=>false
 | _::_,[]=>true
 | x::xs,y::ys=>if x=y then iS xs ys else decide (y<=x)
theorem kT(x y:Int)(xs ys:List Int):iS (x::xs) (y::ys)=if x=y then iS xs ys else decide (y<=x):=rfl
theorem DA(A:qDf)(s:qAp)(a:Int)(t:Tok)(c:Int)(u:Tok)(prog:qBl)(w:qCr)(E:qAi->qAp->Prop)(Q:qAi->qAp->Prop)(h:Q (.bool (decide (a≥c))) s):
  qBs (qCb prog w) A (richCompare .GtE (.int a t) (.int c u)) Q E s :=
 (qOb h:qBs (qCb prog w) A (qDd .GtE (.int a t) (.int c u)) Q E s)
section
open PySem.SeqAt
open PySem.AutoSeq1 (wpAny_loadPart')
open PySem.MeetsSeq PySem.MeetsSeq2 PySem.MeetsSeq3
theorem rB(l b:Addr)(items items2:Array qAi)(n n2:Nat)(dd dd2:Option Addr)(sl sl2:Array (Option qAi))(ns ms:List Int)(hi:qFe items.toList ns)(hj:qFe items2.toList ms):
  Meets (Builtin.«tuple.__ge__» ⟨[.ref l,.ref b],[]⟩)
   (fun _ R s=>s.heap.get? l=some { cls:=.type "tuple",dict:=dd,data:=.seq items n,slots:=sl }/\s.heap.get? b=some { cls:=.type "tuple",dict:=dd2,data:=.seq items2 n2,slots:=sl2 } /\
    R (.ok (.ret (.bool (iS ns ms)))) s) :=
 .of_wp fun prog w A R s h=>by
  obtain⟨hp,g,d,tk,os⟩:=s;obtain⟨hl,hb,h⟩:=h;have f2:=AutoSeq1.sub_tuple_tuple;have z1:items.size=ns.length:=by rw[<- hi.length];simp
  have z2:items2.size=ms.length:=by rw[<- hj.length];simp
  wp_walk using wpAny_loadPart' hl,wpAny_loadPart' hb,wpAny_forIn_list _ (fun rest b s'=>b.1=none/\s'=⟨hp,g,d,tk,os⟩/\∃(vs ws:List qAi) (ns' ms':List Int),rest=vs.zip ws /\
   qFe vs ns'/\qFe ws ms'/\ns'.length+items2.size=ms'.length+items.size/\R (.ok (.ret (.bool (iS ns' ms')))) ⟨hp,g,d,tk,os⟩) _
  case turn =>
   rintro⟨y,x⟩ rest b s' ⟨hb',rfl,vs,ws,ns',ms',hz,hvi,hwi,hlen,hR⟩;cases hvi with
   | nil=>rw[List.zip_nil_left] at hz;cases hz
   | cons a t hvi' =>
    cases hwi with
    | nil=>rw[List.zip_nil_right] at hz;cases hz
    | cons c u hwi' =>
     rw[qMd] at hz;injection hz with hyx hrest;injection hyx with hy hx;subst hy hx;rw[kT] at hR;simp only[qAw] at hlen;obtain⟨e,he,hiff⟩:=Cr A.in1 ⟨hp,g,d,tk,os⟩ a t c u;refine qAd (he prog w _ _ ?_);cases e with
     | true =>
      rw[if_pos (hiff.mp rfl)] at hR;wp_walk;exact⟨rfl,rfl,_,_,_,_,hrest,hvi',hwi',by lia,hR⟩
     | false =>
      rw[if_neg (fun q=>absurd (hiff.mpr q) qAn)] at hR;have hri:=DA A.in1 ⟨hp,g,d,tk,os⟩ a t c u prog w;wp_walk using hri;exact⟨_,rfl,by simpa using hR⟩
  case fin =>
   rintro⟨b1,b2⟩ s' ⟨hb',rfl,vs,ws,ns',ms',hz,hvi,hwi,hlen,hR⟩;simp only at hb';subst hb';have hv:iS ns' ms'=decide (items.size≥items2.size):=by
    cases hvi with
    | nil =>
     cases hwi with
     | nil =>
      simp only[qHx] at hlen;exact(decide_eq_true (by lia)).symm
     | cons c u hw =>
      simp only[qHx,qAw] at hlen;exact(decide_eq_false (by lia)).symm
    | cons a t hv =>
     cases hwi with
     | nil =>
      simp only[qHx,qAw] at hlen;exact(decide_eq_true (by lia)).symm
     | cons c u hw =>
      rw[qMd] at hz;cases hz
   rw[hv] at hR;wp_walk;exact⟨_,rfl,by simpa [Builtin.Tuple.tupleCompareSizes] using hR⟩
  case h =>
   exact⟨rfl,rfl,items.toList,items2.toList,ns,ms,rfl,hi,hj,by lia,h⟩
end
section
variable {prog:qBl}{w:qCr}{A:qDf}{E:qAi->qAp->Prop}{s:qAp}
theorem y8(hl:qNw s.heap l items)(hb:qNw s.heap b items2)(hi:qFe items.toList ns)(hj:qFe items2.toList ms)
  (hu:A.units<qIe) (h:Q (.bool (iS ns ms)) s):qBs (qCb prog w) A (qDd .GtE (.ref l) (.ref b)) Q E s:=by
 obtain⟨⟨cls,dd,data,sl⟩,ho,hc,n,hd⟩:=id hl;obtain⟨⟨cls2,dd2,data2,sl2⟩,ho2,hc2,n2,hd2⟩:=id hb;simp only at hc hd hc2 hd2;subst hc hd hc2 hd2;exact richCompare_meets_room (op:=.GtE) ⟨_,ho,rfl⟩ ⟨_,ho2,rfl⟩ PySem.F.slot_tuple_ge PySem.F.entry_tuple_ge (PySem.F.args_tuple_ge_2 _ _) (rB l b items items2 n n2 dd dd2 sl sl2 ns ms hi hj)
  ⟨ho,ho2,show Value.bool (iS ns ms)≠Value.notImplemented/\Q (.bool (iS ns ms)) s from⟨(fun x=>nomatch x),h⟩⟩ hu
end
end HT
namespace L2
open PySem PySem.Spec PyProof.Rows
section
variable {X:Cx}
def Qw(K:qAb):R2:=fun x y H Q=>∃a b ns ms,x = .ref a/\y = .ref b/\cQ K H a (ns.map V.int)/\cQ K H b (ms.map V.int)/\Q (.bl (HT.iS ns ms)) H
theorem IY(hu:X.A.units<qIe):hU X (qDd .GtE) (Qw X.K):=by
 intro pins s σ H x y v u Q I rx ry h;obtain⟨a,b,ns,ms,rfl,rfl,ha,hb,q⟩:=h;cases rx;cases ry;obtain⟨its,r1,p1,_⟩:=I.tuple ha;obtain⟨its2,r2,p2,_⟩:=I.tuple hb;have i1:qFe its.toArray.toList ns:=intsAre_of r1;have i2:qFe its2.toArray.toList ms:=intsAre_of r2;exact HT.y8 p1 p2 i1 i2 hu ⟨.bl (HT.iS ns ms),H,I,rfl,q⟩
end
section
variable {X:Cx}
def GN(t:TE):TE:=fun σ H Q=>t σ H fun x H1=>∃(a:Addr) (kvs:List (List Key×V)),x = .ref a/\((H1 a=some (.dT kvs)/\∀ob,Q x (upd H1 a (.frz ob (.dT kvs))))\/∃ob,H1 a=some (.frz ob (.dT kvs))/\Q x H1)
theorem FA(hl:PE X l td):PE X l (GN td):=by
 intro pins s σ H Q I h;refine cA (hl pins s σ H _ I h) fun v s1 z9=>?_;obtain⟨x,H1,I1,r1,q1⟩:=z9;obtain⟨a,kvs,e,⟨hq,q⟩ | ⟨ob,_,q⟩⟩:=q1
 .obtain⟨z,hd,xs,rel,ob,es,ep,g1,g2,g3,g4,g5,g6⟩:=CY I1.cK hq;refine⟨x,_,I1.write (x:=a) (e:=a) (o:=.frz ob (.dT kvs)) (t':=s1.toks) (by rw[hq];exact True.intro) (.inl rfl) (fun b u _ e=>e) ⟨ob,g1⟩ ⟨g1,z,hd,xs,rel.keeps fun c cs ec=>?_,ob,es,ep,g1,g2,g3,g4,g6⟩,r1,q ob⟩;rw[aQ (fP ec hq (fun z=>nomatch z))];exact ec
 .exact⟨x,H1,I1,r1,q⟩
theorem wD(h:qFe us ns):∀(i:Nat){v:qAi},us[i]?=some v->∃n t,ns[i]?=some n/\v=Value.int n t:=by
 induction h with
 | nil=>intro i v e;cases e
 | cons a t hr ih =>
  intro i v e;cases i with
  | zero=>cases e;exact⟨a,t,rfl,rfl⟩
  | succ i=>exact ih i e
theorem Bq(hh:X.calm=true):eZ X (.builtin "any") (fun xs H Q=>∃(p:Addr) (ns:List Int),xs=[.ref p]/\aV X.K H p (ns.map V.int)/\Q (.bl (ns.any fun n=>n != 0)) H):=by
 intro pins s σ H xs us Q I r h;obtain⟨p,ns,rfl,hq,q⟩:=h;obtain⟨u,rfl,rx⟩:=vals1 r;cases rx;obtain⟨its,r',pl,hz⟩:=I.list hq;have hb:qFe its ns:=intsAre_of r';have hl:=pl.isList;have hlt:p<s.heap.objs.size:=by obtain⟨_,e,_⟩:=hl;exact qAy e
 refine call_any_walk (qEa hl ?_);refine⟨s.heap.objs.size,[s.heap.objs.size,p],[s.heap.objs.size],its.toArray.size,_,_,fun i=>((ns[i]?).map fun n=>n != 0).getD false,rfl,Walks.list (A:=X.A.in1) (I.ok.hd hh) _ p (qBk hlt) its.toArray,
  ⟨⟨_,qAz _ rfl,rfl,rfl⟩,hl.push _⟩,fun i v s' Q' E' hP hQ=>?_,fun h' tk hk=>?_⟩
 .have hv:its[i]?=some v:=by simpa using hP
  obtain⟨n,t,e,rfl⟩:=wD hb i hv;simp only[e,qGh,qIx] at hQ;exact qNx hQ
 .have e:((qAh its.toArray.size).any fun i=>((ns[i]?).map fun n=>n != 0).getD false)=ns.any fun n=>n != 0:=by
   rw[qBc,hb.length];have z:=LSm.range_any (ns.map fun n=>n != 0);rw[qAa,qLf] at z;refine Eq.trans ?_ z;refine congrArg (fun f=>(qAh ns.length).any f) (funext fun i=>?_);rw[qAf]
  rw[e];exact⟨.bl _,H,I.kept (t':=tk) (LSm.kept_iter hk),rfl,q⟩
end
section
variable {K:qAb}{a:Addr}{ob:Obj}{kvs:List (List Key×V)}{σ0:St}{H1:Hp}{i0:Nat}{c:TT}{te:TE}{Q:Addr->Hp->Prop}
theorem FC(R:Nat->V->Hp->Prop)(f:Nat->Bool)(mono:∀i y H H',eO H H'->R i y H->R i y H')(hq:H1 a=some (.frz ob (.dT kvs)))(hn:kvs.length<=qAg)
  (step:∀(i:Nat) (b:Addr) (kv:List Key×V) (H2:Hp) (k:VK) (k0:Hp->Prop),aJ H1 H2->kvs[i]?=some kv->H2 b=some (.tup (kv.1.map kV))->(f i=true->∀y H3,aJ H2 H3->R i y H3->k y H3)->(f i=false->∀H3,aJ H2 H3->k0 H3) ->
   c (σ0.set i0 (some (.ref b))) H2 fun t H4=>if t=true then te (σ0.set i0 (some (.ref b))) H4 k else k0 H4)
  (h:∀(D:Addr) (ys:List V) (H2:Hp),H1 D=none->aJ H1 H2->ys.length=((qAh kvs.length).filter f).length->(∀(j:Nat) (y:V),ys[j]?=some y->∃i,((qAh kvs.length).filter f)[j]?=some i/\R i y H2)->H2 D=some (.lst ys)->Q D H2) :
  ∀D,H1 D=none->∃W:Nat->Nat->St->Hp->Prop,(∃m,W 0 m σ0 (upd H1 D (.lst [])))/\∀i m σ1 H2,W i m σ1 H2 ->
   ((Nn a ob kvs).stop i H2/\Q D H2)\/((Nn a ob kvs).go i H2/\∃N:St->Hp->Prop,(∀σ' H',N σ' H'->∃m',m'<m/\W (i+1) m' σ' H') /\
    ∀x H',(Nn a ob kvs).tE i H2 x H'->bC i0 x σ1 H' fun σ2 H3=>c σ2 H3 fun b H4=>if b=true then te σ2 H4 fun y H5=>∃xs,H5 D=some (.lst xs)/\xs.length<qAg/\N σ2 (upd H5 D (.lst (xs++[y]))) else N σ2 H4):=by
 intro D hD;refine⟨fun i m σ1 H2=>σ1.set i0 none=σ0.set i0 none/\aJ H1 H2/\(∃ys:List V,ys.length=((qAh i).filter f).length/\(∀(j:Nat) (y:V),ys[j]?=some y->∃i',((qAh i).filter f)[j]?=some i'/\R i' y H2)/\H2 D=some (.lst ys))/\i<=kvs.length/\m=kvs.length-i,⟨kvs.length,rfl,.aI hD,⟨[],rfl,fun j y e=>(by cases e),aC⟩,qBf _,rfl⟩,?_⟩;rintro i m σ1 H2 ⟨hσ,hs,⟨ys,hl,hy,hd⟩,hi,rfl⟩;have hset:∀v:Option V,σ1.set i0 v=σ0.set i0 v:=fun v=>by
  have z:=congrArg (fun l=>qIc l i0 v) hσ;simpa using z
 have hyl:ys.length<=i:=by
  rw[hl];exact qAx (qHy _ _) (by rw[qBg];exact qAl _)
 have hf:=hs _ _ hq;rcases qBj i kvs.length with hlt | hge
 .right
  refine⟨⟨hf,hlt⟩,fun σ' H'=>σ'.set i0 none=σ0.set i0 none/\aJ H1 H'/\∃ys:List V,ys.length=((qAh (i+1)).filter f).length/\(∀(j:Nat) (y:V),ys[j]?=some y->∃i',((qAh (i+1)).filter f)[j]?=some i'/\R i' y H')/\H' D=some (.lst ys),(by rintro σ' H' ⟨a,b,c⟩;exact ⟨kvs.length-(i+1),by lia,a,b,c,hlt,rfl⟩),?_⟩;rintro v H' ⟨rfl,b,kv,hkv,rfl,hb⟩;show c (σ1.set i0 (some (.ref b))) _ _;rw[hset];have er:(qAh (i+1)).filter f=(qAh i).filter f++if f i=true then [i] else []:=by
   rw[qCt,qMf];refine congrArg (fun l=>(qAh i).filter f++l) ?_;by_cases z:f i=true
   .rw[if_pos z,qCg z];rfl
   .rw[if_neg z,qCv z];rfl
  refine step i b kv _ _ _ hs hkv hb (fun z y H3 hs3 r=>⟨_,hs3 _ _ hd,qBi hyl (qAr hlt hn),by simp,(hs.trans hs3).upd_ne' hD,ys++[y],?_,fun j w e=>?_,aC⟩) fun z H3 hs3=>⟨by simp,hs.trans hs3,ys,?_,fun j w e=>?_,hs3 _ _ hd⟩
  .rw[er,if_pos z,qAo,qAo,hl];rfl
  .have tk:eO H3 (upd H3 D (.lst (ys++[y]))):=fun b us e=>by
    rw[aQ fun z=>by rw[z,hs3 _ _ hd] at e;cases e];exact e
   rw[er,if_pos z];rcases qBj j ys.length with hj | hj
   .rw[qBu hj] at e;obtain⟨i',e1,r'⟩:=hy j w e;exact⟨i',by rw[qBu (by rw[<- hl];exact hj)];exact e1,mono _ _ _ _ tk (mono _ _ _ _ hs3.t r')⟩
   .rw[qCd hj] at e;have j0:j-ys.length=0:=by
     obtain⟨w1,_⟩:=List.getElem?_eq_some_iff.mp e;have w1:j-ys.length<1:=w1;lia
    rw[j0] at e;cases e;exact⟨i,by rw[qCd (by rw[<- hl];exact hj),<- hl,j0];rfl,mono _ _ _ _ tk r⟩
  .rw[er,if_neg (by rw[z];decide),qCl,hl]
  .obtain⟨i',e1,r'⟩:=hy j w e;rw[er,if_neg (by rw[z];decide),qCl];exact⟨i',e1,mono _ _ _ _ hs3.t r'⟩
 .left
  obtain rfl:i=kvs.length:=qDe hi hge;exact⟨⟨hf,qAl _⟩,h D ys _ hD hs hl hy hd⟩
end
section
variable {X:Cx}
def FD(K:qAb):R2:=fun x y H Q=>∃(a p:Addr) (i j:Int) (as:List Addr) (ps:List (Int×Int)),x = .ref a/\y = .ref p/\H a=some (.tup [.int i,.int j])/\aV K H p (as.map V.ref)/\as.length=ps.length/\(∀(k:Nat) (b:Addr) (q:Int×Int),as[k]?=some b->ps[k]?=some q->H b=some (.tup [.int q.1,.int q.2]))/\Q (.bl (!(ps.any fun q=>decide (q=(i,j))))) H
theorem DB(I:Inv X pins σ H s)(hu:A.units<qIe)(ha:H a=some (.tup [.int i,.int j]))(hb:H b=some (.tup [.int i',.int j'])):SeqAt.EqAt A s (.ref b) (.ref a) (decide ((i',j')=(i,j))):=by
 by_cases e:b=a
 .subst e;rw[ha] at hb;injection hb with hb;injection hb with hb;injection hb with h1 hb;injection hb with h2 _;injection h1 with h1;injection h2 with h2;subst h1 h2;rw[decide_eq_true rfl];exact SeqAt.EqAt.same _
 .obtain⟨its,r,p1,_⟩:=I.tuple (cQ.of ha);obtain⟨its',r',p1',_⟩:=I.tuple (cQ.of hb);cases r with
  | cons x1 r =>
   cases r with
   | cons x2 r =>
    cases r
    cases r' with
    | cons y1 r' =>
     cases r' with
     | cons y2 r' =>
      cases r'
      obtain⟨t1,rfl⟩:=x1;obtain⟨t2,rfl⟩:=x2;obtain⟨t3,rfl⟩:=y1;obtain⟨t4,rfl⟩:=y2;have z:=SeqAt.RcAt.tuples (A:=A) (s:=s) (e:=fun k=>if k=0 then (i' == i) else (j' == j)) p1' p1 hu (fun k h1 h2=>by
       match k,h1,h2 with
       | 0,_,_=>exact SeqAt.EqAt.int_int _ _ _ _
       | 1,_,_=>exact SeqAt.EqAt.int_int _ _ _ _
       | k+2,h1,_=>exact absurd h1 (by show ¬k+2<2;lia))
      have y:=SeqAt.EqAt.of_refs e z;have eb:((qAh (min 2 2)).all (fun k=>if k=0 then (i' == i) else (j' == j))&&(2 == 2))=decide ((i',j')=(i,j)):=by
       show((i' == i)&&((j' == j)&&true)&&true)=_;rw[qHi,qHi];by_cases h1:i'=i
       .by_cases h2:j'=j
        .rw[h1,h2,decide_eq_true rfl,beq_self_eq_true,beq_self_eq_true];rfl
        .rw[decide_eq_false (fun z=>h2 (Prod.mk.inj z).2),beq_eq_false_iff_ne.mpr h2,qFf]
       .rw[decide_eq_false (fun z=>h1 (Prod.mk.inj z).1),beq_eq_false_iff_ne.mpr h1,qEv]
      rw[<- eb];exact y
theorem Br(hu:X.A.units+64<qIe):hU X (qDd .NotIn) (FD X.K):=by
 intro pins s σ H x y v u Q I rx ry h;obtain⟨a,p,i,j,as,ps,rfl,rfl,ha,hq,hl,hp,q⟩:=h;cases rx;cases ry;obtain⟨its,r,pl,hz⟩:=I.list hq;have hit:its=as.map Value.ref:=by
  clear hq hl hp q pl hz
  induction as generalizing its with
  | nil=>cases r;rfl
  | cons b as ih =>
   cases r with
   | cons x r =>
    cases (show _=Value.ref b from x)
    rw[ih _ r];rfl
 have pr:∀k,k<as.length->∃b c,as[k]?=some b/\ps[k]?=some c/\H b=some (.tup [.int c.1,.int c.2]):=fun k hk=>⟨as[k],ps[k]'(by lia),qAc hk,qAc (by lia),hp k _ _ (qAc hk) (qAc (by lia))⟩;let e:qAi->Bool:=fun w=>match w with
  | .ref b=>(match H b with | some (.tup [.int i',.int j'])=>decide ((i',j')=(i,j)) | _=>false)
  | _=>false
 have ee:∀{b:Addr}{c:Int×Int},H b=some (.tup [.int c.1,.int c.2])->e (.ref b)=decide (c=(i,j)):=fun {b c} hb=>by
  show(match H b with | some (.tup [.int i',.int j'])=>decide ((i',j')=(i,j)) | _=>false)=_
  rw[hb]
 refine SeqAt.notIn_listAt e pl.isList (fun w hw=>?_) ?_
 .have hw:w∈its:=by simpa using hw
  rw[hit] at hw;obtain⟨b,hb,rfl⟩:=List.mem_map.mp hw;obtain⟨k,hk,eb⟩:=qLq hb;obtain⟨b',c,e1,e2,e3⟩:=pr k hk;rw[qAc hk,eb] at e1;cases e1;rw[ee e3];exact DB I (by show X.A.units+1<qIe;lia) ha e3
 .have ea:its.toArray.any e=ps.any fun q=>decide (q=(i,j)):=by
   rw[List.any_toArray,hit,qLf];clear hq q pl hz r hit;induction as generalizing ps with
   | nil =>
    cases ps with
    | nil=>rfl
    | cons=>cases hl
   | cons b as ih =>
    cases ps with
    | nil=>cases hl
    | cons c ps =>
     rw[qFq,qFq,ih ps (by simpa using hl) (fun k b q e1 e2=>hp (k+1) b q e1 e2) fun k hk=>?_]
     .refine congrArg (· || _) ?_;exact ee (hp 0 b c rfl rfl)
     .exact⟨as[k],ps[k]'(by simp at hl;lia),qAc hk,qAc (by simp at hl;lia),hp (k+1) _ _ (by simpa using qAc hk) (by simpa using qAc (by simp at hl;lia))⟩
  rw[ea];exact⟨.bl _,H,I,rfl,q⟩
def FE(tk tv:TE):TE:=fun σ H Q=>∀p,H p=none->tk σ (upd H p (.dT [])) fun x H2=>tv σ H2 fun y H3=>H3 p=some (.dT [])/\∃(b:Addr) (k:List Key),x = .ref b/\H3 b=some (.tup (k.map kV))/\Q (.ref p) (upd H3 p (.dT (putK [] k y)))
theorem Bs(hu:X.A.units+1<qIe)(hk:PE X k tk)(hv:PE X v tv):PE X (.Dict [some k] [v] pos) (FE tk tv):=by
 intro pins s σ H Q I q;have hn:=I.cK.fresh (qAl s.heap.objs.size);have I1:=I.laid (a:=s.heap.objs.size) (o:=.dT []) (h':=s.heap.push { cls:=.type "dict",data:=.dict #[] }) (t':=s.toks) (fun _ _ q=>qAk _ q) (qAl _) (vU s.heap I.big);rw[arm_eval_Dict,zip_pairTrees [some k] [v] X.env pos #[0] #[0],dictDisplay_pairs (pairTrees [some k] [v] X.env pos) (fun z=>nomatch z) (by show 1<17;decide)];refine qAd (qGc (qAd ?_));delta subDict;refine qAd (wpAny_alloc ?_);refine qAd (qCm ?_);rw[if_pos (by show 1<=15;decide)];refine qAd (pairTrees_cons_walk (cA (hk pins _ σ _ _ I1 (q _ hn)) fun u s2 ⟨x,H2,I2,rx,q2⟩=>cA (hv pins s2 σ H2 _ I2 q2) fun u2 s3 ⟨y,H3,I3,ry,e,b,ks,ex,eb,q3⟩=>pairTrees_nil_walk ?_));subst ex;cases (show u=Value.ref b from rx);refine qCm ?_;rw[List.forIn_cons];obtain⟨z,hd,xs,rel,dd⟩:=CY I3.cK e;have hz:xs.length<=qAg:=by rw[<- Paired.length rel];exact z
 have hl:(putK [] ks y).length<=qAg:=by have:=jS [] ks y;exact qAx this (by show 0+1<=qAg;decide)
 refine qAd (qAd (qAd (wpAny_dictSet_heap (hsz:=hz) (show(qGx (dB X.prog X.w)).room X.A from by show X.A.units<qIe;lia) (mR I3.cK eb) dd fun h' dd' hs=>qAm ?_)));refine qAm (qAm (qAm (qAm ?_)));obtain⟨q0,es,ep,hq,h2,h3,h4,_,h5⟩:=dd';refine⟨.ref s.heap.objs.size,_,tT (ob:=.dT (putK [] ks y)) I3 (by rw[e];exact True.intro) hs ⟨q0,hq⟩ ⟨hl,hd,_,(rel.put ks eb ry).keeps fun c ys ec=>?_,q0,es,ep,hq,h2,h3,h4,h5⟩,rfl,q3⟩;rw[aQ (fP ec e (fun z=>nomatch z))];exact ec
end
section
variable {X:Cx}
theorem Bt(hh:X.calm=true):eZ X (.builtin "max") (fun xs H Q=>∃(p:Addr) (ns:List Int),xs=[.ref p]/\aV X.K H p (ns.map V.int)/\0<ns.length/\∀M,M∈ns->(∀a,a∈ns->a<=M)->Q (.int M) H):=by
 intro pins s σ H xs us Q I r h;obtain⟨p,ns,rfl,hq,hne,q⟩:=h;obtain⟨u,rfl,rx⟩:=vals1 r;cases rx;obtain⟨its,r',pl,hz⟩:=I.list hq;have hi:=intsAre_of r';obtain⟨xs,hx⟩:=hi.allInts.items;have hl':s.heap.IsList p (intItems xs):=hx▸pl.isList;have e1:ns=xs.toList.map (·.1):=by
  rw[<- nums_intItems,<- hx];exact(show numsOf its.toArray.toList=ns from hi.numsOf).symm
 have hsz:0<xs.size:=by
  have h3:=hne;rw[e1,qAa,qCa] at h3;exact h3
 refine max_intList (I.ok.hd hh) hl' hsz fun v h' tk hv hk=>?_;obtain⟨t,rfl⟩:=intItems_at hv;obtain⟨h1,h2⟩:=argBest_gt (numAt xs) (xs.size-1);refine⟨.int _,H,I.kept (t':=tk) hk,⟨_,rfl⟩,q _ ?_ fun a ha=>?_⟩
 .rw[e1,numAt_eq];exact getD_mem (by rw[qAa,qCa];lia)
 .rw[e1] at ha;obtain⟨j,hj,rfl⟩:=mem_getD ha;rw[qAa,qCa] at hj;rw[<- numAt_eq];exact h2 j (by lia)
end
end L2
set_option maxHeartbeats 8000000
theorem L2.uu1{α}{P:List α->Prop}(h:∀ a,P [a]):∀us,us.length=1->P us
|[a],_=>h a
theorem L2.uu2{α}{P:List α->Prop}(h:∀ a b,P [a,b]):∀us,us.length=2->P us
|[a,b],_=>h a b
theorem L2.uu3{α}{P:List α->Prop}(h:∀ a b c,P [a,b,c]):∀us,us.length=3->P us
|[a,b,c],_=>h a b c
theorem L2.uu4{α}{P:List α->Prop}(h:∀ a b c d,P [a,b,c,d]):∀us,us.length=4->P us
|[a,b,c,d],_=>h a b c d
namespace K20
open PySem L2
seal PE PT PW PA PS rG PG MB PI hU Px eZ PO LO Ip Iq RM vJ HZ RZ Qb
def top(i:Nat):Stmt:=PySem.Challenge.pw_shareparley_k20_whole_texts.main.body.getD i (.Pass ⟨0,0,0,0⟩)
abbrev IZ:Stmt:=top 7
abbrev DC:Stmt:=top 8
abbrev Ja:Stmt:=top 9
abbrev Qx:Stmt:=top 12
abbrev Jb:Stmt:=top 13
abbrev Jc:Stmt:=top 14
abbrev Jd:Stmt:=top 17
abbrev Je:Stmt:=top 18
abbrev Jf:Stmt:=top 20
abbrev Jg:Stmt:=top 21
abbrev Jh:Stmt:=top 22
abbrev Qy:Stmt:=top 23
abbrev Ji:Stmt:=top 24
abbrev Jj:Stmt:=top 25
abbrev Jk:Stmt:=top 26
abbrev Qz:Stmt:=top 34
abbrev QA:Stmt:=top 35
abbrev Jl:Stmt:=top 37
abbrev Jm:Stmt:=top 38
abbrev Jn:Stmt:=top 39
abbrev Jo:Stmt:=top 40
abbrev Jp:Stmt:=top 41
abbrev Jq:Stmt:=top 49
abbrev Jr:Stmt:=top 50
abbrev Js:Stmt:=top 51
abbrev Jt:Stmt:=top 52
abbrev Ju:Stmt:=top 53
abbrev Jv:Stmt:=top 54
abbrev Jw:Stmt:=top 55
abbrev Jx:Stmt:=top 56
abbrev Jy:Stmt:=top 58
abbrev Jz:Stmt:=top 59
abbrev JA:Stmt:=top 60
abbrev QB:Stmt:=top 61
abbrev JB:Stmt:=top 62
abbrev JC:Stmt:=top 63
abbrev JD:Stmt:=top 64
abbrev JE:Stmt:=top 65
abbrev JF:Stmt:=top 66
abbrev JG:Stmt:=top 67
abbrev JH:Stmt:=top 68
abbrev JJ:Stmt:=top 69
abbrev JK:Stmt:=top 70
abbrev JL:Stmt:=top 71
abbrev LR:Stmt:=inClass (top 27) 0
abbrev LS:Stmt:=inClass (top 27) 1
abbrev Bu:Stmt:=inClass (top 27) 2
abbrev LU:Stmt:=inClass (top 27) 3
abbrev LV:Stmt:=inClass (top 27) 4
abbrev LW:Stmt:=inClass (top 28) 0
abbrev LX:Stmt:=inClass (top 28) 1
abbrev Bv:Stmt:=inClass (top 28) 2
abbrev LY:Stmt:=inClass (top 31) 0
abbrev LZ:Stmt:=inClass (top 31) 1
abbrev Bw:Stmt:=inClass (top 31) 2
abbrev Bx:Stmt:=inClass (top 29) 0
abbrev By:Stmt:=inClass (top 29) 1
abbrev Bz:Stmt:=inClass (top 29) 2
abbrev Ma:Stmt:=inClass (top 30) 0
abbrev Mb:Stmt:=inClass (top 30) 1
abbrev Mc:Stmt:=inClass (top 30) 2
abbrev Me:Stmt:=inClass (top 36) 0
abbrev Mf:Stmt:=inClass (top 36) 1
abbrev Mg:Stmt:=inClass (top 36) 3
abbrev Mh:Stmt:=inClass (top 42) 0
abbrev BA:Stmt:=inClass (top 42) 1
abbrev BB:Stmt:=inClass (top 42) 2
abbrev Mi:Stmt:=inClass (top 42) 4
abbrev Mj:Stmt:=inClass (top 45) 0
abbrev Ml:Stmt:=inClass (top 45) 1
abbrev Mm:Stmt:=inClass (top 45) 2
abbrev Mn:Stmt:=inClass (top 45) 4
abbrev Mo:Stmt:=inClass (top 45) 3
abbrev BC:Stmt:=inClass (top 42) 3
theorem lQ(h1:mG 0 (2^m-1) v=true):∃g:Nat,v = .int (g:Int)/\g<2^m:=by
 cases v with
 | int i =>
  have z:(decide (0<=i)&&decide (i<=2^m-1))=true:=h1;rw[qAv] at z;have z1:=of_decide_eq_true z.1;have z2:=of_decide_eq_true z.2;have e:((2^m:Nat):Int)=2^m:=by push_cast;rfl
  exact⟨i.toNat,by rw[qGo z1],by lia⟩
 | _=>exact(qAn h1).elim
theorem oQ{g m:Nat}(hg:g<2^m):mG 0 (2^m-1) (.int (g:Int))=true:=by
 show(decide (0<=(g:Int))&&decide ((g:Int)<=2^m-1))=true;have e:((2^m:Nat):Int)=2^m:=by push_cast;rfl
 rw[decide_eq_true (by lia),decide_eq_true (by lia)];rfl
def jT:List Int:=[1,2,4,8,16,32]
def alone(i:Nat):Int:=jT.getD i 0
def sI(g:Nat)(i:Nat):Option V:=if qBm (g:Int) (alone i)=0 then none else some (.int (i:Int))
def hN(g:Nat):Nat->List Int
 | 0=>[]
 | i+1=>if g/2^i%2=1 then hN g i++[(i:Int)] else hN g i
def dH(g:Nat):List Int:=hN g 6
theorem y9:∀g:_root_.Fin 64,(qAh 6).filterMap (sI g.1)=(dH g.1).map V.int:=by decide +kernel
theorem t8(g:Nat):∀i,(hN g i).length<=i
 | 0=>qAl _
 | i+1=>by
  have h:=t8 g i;unfold hN;split
  .rw[qAo,qLe];lia
  .lia
theorem zA{g m:Nat}(hg:g<2^m):∀(i:Nat) (x:Int),x∈hN g i->0<=x/\x<m
 | 0,x,h=>by cases h
 | i+1,x,h=>by
  unfold hN at h;split at h
  .rename_i hb;rcases List.mem_append.mp h with h | h
   .exact zA hg i x h
   .have:x=(i:Int):=by simpa using h
    rcases qBj i m with z | z
    .lia
    .have:g/2^i=0:=qJo (qAr hg (qBt #[1] z));lia
  .exact zA hg i x h
def g9(ns:List Int)(g:Nat):Nat->Int
 | 0=>0
 | i+1=>if g/2^i%2=1 then g9 ns g i+ns.getD i 0 else g9 ns g i
def nA(ns:List Int)(g:Nat):Int:=g9 ns g ns.length
theorem sJ(hg:g<2^m):∀k,g9 ns g (m+k)=g9 ns g m
 | 0=>rfl
 | k+1=>by
  have:g/2^(m+k)=0:=qJo (qAr hg (qBt #[1] (by lia)));show(if g/2^(m+k)%2=1 then _ else g9 ns g (m+k))=_;rw[if_neg (by lia)];exact sJ hg k
theorem t9(ns:List Int)(g:Nat):∀i,((hN g i).map fun h=>ns.getD h.toNat 0).sum=g9 ns g i
 | 0=>rfl
 | i+1=>by
  unfold hN g9;split
  .rw[qBw,qMw,t9 ns g i];simp
  .exact t9 ns g i
theorem zB(hl:ns.length<=6)(hg:g<2^ns.length):((dH g).map fun h=>ns.getD h.toNat 0).sum=nA ns g:=by
 delta dH;rw[t9];obtain⟨k,hk⟩:∃k,6=ns.length+k:=⟨6-ns.length,by lia⟩;rw[hk];exact sJ hg k
theorem kU(xs:List V)(n:Nat):gH xs (some (n:Int)) none=xs.drop n:=by
 delta gH;rw[HT.zT,HT.vE];rcases qOj n xs.length with h | h
 .rw[qNa h];exact qDw (by rw[qDn];lia)
 .rw[qMu h,List.drop_length,qKw h];simp
theorem zC(xs:List V)(n:Nat):gH xs none (some (n:Int))=xs.take n:=by
 delta gH;rw[HT.zT,HT.vE,qNd,qOg];rcases qOj n xs.length with h | h
 .rw[qNa h]
 .rw[qMu h,qEk,qDw h]
theorem FF(h:m<=6):2^m<=64:=qBt (n:=2) #[1] h
theorem lR{K:qAb}{H:Hp}{ns:List Int}:∀u∈ns.map V.int,Pl K H u:=fun u hu=>by
 obtain⟨x,_,rfl⟩:=List.mem_map.mp hu;exact .int x
theorem all_ints(ns:List Int):(ns.map V.int).all jO=true:=by
 induction ns with
 | nil=>rfl
 | cons n r ih=>exact ih
theorem dY:∀{l:List α},(∀x∈l,f x=g x)->l.filterMap f=l.filterMap g
 | [],_=>rfl
 | x::r,h=>by
  rw[qCf,qCf,h x (by simp),dY fun y hy=>h y (by simp[hy])]
def lT:List Int:=[1,2,4,8,16,32,64]
structure RC (K:qAb) (fE fH RU C g:Addr):Prop where
 oc:IF K C
 nm:c5 K C "many"
 me:Meth K C "earn" fE
 mh:Meth K C "hands" fH
 mr:Meth K C "reckon" g
 Tf:qDc K (.ref C) (.ref RU)=some true
def JM(fs:List (Str×V)):Prop:=fs.lookup ("earn":Str)=none/\fs.lookup ("hands":Str)=none/\fs.lookup ("reckon":Str)=none
def nB(P:qBl)(w:qCr)(K:qAb)(mg:Str->Option qAi)(base:Heap)(fE fH RU:Addr)(H:Hp)(a:Addr)(m:Nat)(e:Nat->Int):Prop :=
 ∃(C dx g:Addr) (fs:List (Str×V)),H a=some (.ins C dx fs)/\RC K fE fH RU C g/\fs.lookup ("many":Str)=some (.int (m:Int))/\1<=m/\m<=6/\JM fs /\
  ∃ps,Md P w K mg base 6 ps (fun vs H2 Q _=>∃gr:Nat,vs=[.ref a,.int (gr:Int)]/\gr<2^m/\aJ H H2/\∀H3,aJ H2 H3->Q (.int (e gr)) H3) g
theorem nB.same(r:nB P w K mg base fE fH RU H a m e)(s:aJ H H'):nB P w K mg base fE fH RU H' a m e:=by
 obtain⟨C,dx,g,fs,h1,h2,h3,h4,h5,h6,ps,h7⟩:=r;exact⟨C,dx,g,fs,s _ _ h1,h2,h3,h4,h5,h6,ps,h7.imp (by rintro vs H2 Q _ ⟨gr,a,b,c,d⟩;exact ⟨gr,a,b,s.trans c,d⟩)⟩
def okN(xs:List V):Bool:=decide (1<=xs.length)&&decide (xs.length<=6)&&xs.all jO
theorem iI(n:Nat):mG 1 6 (.int (n:Int))=(decide (1<=n)&&decide (n<=6)):=by
 show(decide (1<=(n:Int))&&decide ((n:Int)<=6))=_;rw[qEz,qAv,qAv,decide_eq_true_iff,decide_eq_true_iff,decide_eq_true_iff,decide_eq_true_iff];lia
structure CC (K:qAb) (C fe fh fw ft:Addr):Prop where
 oc:IF K C
 nm:c5 K C "many"
 nr:c5 K C "rules"
 me:Meth K C "earn" fe
 mh:Meth K C "hands" fh
 mw:Meth K C "words" fw
 Tg:qDc K (.ref C) (.ref C)=some true
 mt:Meth K C "table" ft
structure T (K:qAb) (mg:Str->Option qAi) (AL LN RU OW PL PA VO MA NE fE fH rR rO rP rA rV rM rN iR iO iP iA iV iM iN fL wR wO wP wA wV wM wN CO iC cH cE cW cT fN SE NG NL NT:Addr):Prop where
 iT:mg "isinstance"=none
 hW:mg "int"=none
 nC:mg "bool"=none
 cO:mg "range"=none
 cG:mg "len"=none
 fK:mg "list"=none
 hX:mg "sum"=none
 pS:mg "all"=none
 pT:mg "any"=none
 iU:mg "sorted"=none
 j9:mg "tuple"=none
 wF:mg "min"=none
 nP:mg "abs"=none
 jE:mg "enumerate"=none
 pU:mg "str"=none
 nQ:mg "max"=none
 xS:mg "ALONE"=some (.ref AL)
 al:∀H:Hp,cQ K H AL (jT.map V.int)
 GO:mg "LENGTHS"=some (.ref LN)
 ln:∀H:Hp,cQ K H LN (lT.map V.int)
 Sl:∃o,K.lookup LN=some o/\o.cls = .type "tuple"/\o.dict=none
 we:∃tk,mg "WELL"=some (.int 64 tk)
 mr:∃tk,mg "MOST_RULES"=some (.int 12 tk)
 mf:∃tk,mg "MOST_FIGURES"=some (.int 30 tk)
 fg:∃tk,mg "FIGURES"=some (.str ("0123456789":Str) tk)
 DD:mg "Rule"=some (.ref RU)
 PB:RC K fE fH RU RU rR
 Sm:Mk K RU iR
 Nv:mg "Own"=some (.ref OW)
 JN:RC K fE fH RU OW rO
 Sn:Mk K OW iO
 QC:c5 K OW "numbers"
 Mp:mg "Plain"=some (.ref PL)
 JO:RC K fE fH RU PL rP
 RP:Mk K PL iP
 QD:c5 K PL "earnings"
 Nw:mg "Pairs"=some (.ref PA)
 JP:RC K fE fH RU PA rA
 So:Mk K PA iA
 QE:c5 K PA "pairs"
 Nx:mg "Votes"=some (.ref VO)
 BD:RC K fE fH RU VO rV
 Sq:Mk K VO iV
 QF:c5 K VO "quota"
 JQ:c5 K VO "prize"
 JR:c5 K VO "weights"
 Ny:mg "Match"=some (.ref MA)
 FG:RC K fE fH RU MA rM
 Sr:Mk K MA iM
 QG:c5 K MA "pairs"
 Nz:c5 K MA "best"
 Mq:mg "Net"=some (.ref NE)
 uQ:RC K fE fH RU NE rN
 RQ:Mk K NE iN
 QH:c5 K NE "costs"
 FH:c5 K NE "ropes"
 RS:Meth K NE "least" fL
 Ss:Meth K RU "words" wR
 Su:Meth K OW "words" wO
 Sv:Meth K PL "words" wP
 Sw:Meth K PA "words" wA
 Sx:Meth K VO "words" wV
 Sy:Meth K MA "words" wM
 Sz:Meth K NE "words" wN
 Mr:mg "Company"=some (.ref CO)
 kX:CC K CO cE cH cW cT
 RT:Mk K CO iC
 SA:Meth K NE "net" fN
 SD:∃fd,Mx K "__init__" "Rule.__init__" LR ["self","many"] iR fd
 xH:∃fd,Mx K "hands" "Rule.hands" LS ["self"] fH fd
 xE:∃fd,Mx K "earn" "Rule.earn" Bu ["self","group"] fE fd
 SF:∃fd,Mx K "reckon" "Rule.reckon" LU ["self","group"] rR fd
 SH:∃fd,Mx K "words" "Rule.words" LV ["self"] wR fd
 SI:∃fd,Mx K "__init__" "Own.__init__" LW ["self","numbers"] iO fd
 SJ:∃fd,Mx K "reckon" "Own.reckon" LX ["self","group"] rO fd
 QI:∃fd,Mx K "words" "Own.words" Bv ["self"] wO fd
 SK:∃fd,Mx K "__init__" "Plain.__init__" LY ["self","table"] iP fd
 SM:∃fd,Mx K "reckon" "Plain.reckon" LZ ["self","group"] rP fd
 QJ:∃fd,Mx K "words" "Plain.words" Bw ["self"] wP fd
 QK:∃fd,Mx K "__init__" "Pairs.__init__" Bx ["self","many","pairs"] iA fd
 QL:∃fd,Mx K "reckon" "Pairs.reckon" By ["self","group"] rA fd
 QM:∃fd,Mx K "words" "Pairs.words" Bz ["self"] wA fd
 SN:∃fd,Mx K "__init__" "Votes.__init__" Ma ["self","quota","prize","weights"] iV fd
 SO:∃fd,Mx K "reckon" "Votes.reckon" Mb ["self","group"] rV fd
 SQ:∃fd,Mx K "words" "Votes.words" Mc ["self"] wV fd
 SR:∃fd,Mx K "__init__" "Match.__init__" Me ["self","many","pairs"] iM fd
 SS:∃fd,Mx K "reckon" "Match.reckon" Mf ["self","group"] rM fd
 SU:∃fd,Mx K "words" "Match.words" Mg ["self"] wM fd
 SV:∃fd,Mx K "__init__" "Net.__init__" Mh ["self","costs","ropes"] iN fd
 QN:∃fd,Mx K "least" "Net.least" BA ["self","group"] fL fd
 QO:∃fd,Mx K "reckon" "Net.reckon" BB ["self","group"] rN fd
 SW:∃fd,Mx K "words" "Net.words" Mi ["self"] wN fd
 SX:∃fd,Mx K "__init__" "Company.__init__" Mj ["self","many","rules"] iC fd
 QP:∃fd,Mx K "hands" "Company.hands" Ml ["self"] cH fd
 QQ:∃fd,Mx K "earn" "Company.earn" Mm ["self","group"] cE fd
 QR:∃fd,Mx K "words" "Company.words" Mn ["self"] cW fd
 QS:∃fd,Mx K "table" "Company.table" Mo ["self"] cT fd
 QT:∃fd,Mx K "net" "Net.net" BC ["self","group"] fN fd
 Ms:GK K RU "__init__" iR
 PD:mg "ShareError"=some (.ref SE)
 NA:mg "NoGroup"=some (.ref NG)
 BE:mg "NoRule"=some (.ref NL)
 NC:mg "NoTable"=some (.ref NT)
 Th:pD K SE
 BF:qEr K NL IA "ValueError.__new__"=true
 ND:qEr K NT IA "ValueError.__new__"=true
 NF:qEr K NG IA "ValueError.__new__"=true
section
variable {P:qBl}{w:qCr}{K:qAb}{mg:Str->Option qAi}{base:Heap}{AL LN RU OW PL PA VO MA NE fE fH rR rO rP rA rV rM rN iR iO iP iA iV iM iN fL wR wO wP wA wV wM wN CO iC cH cE cW cT fN SE NG NL NT:Addr}{f:Addr}{fd:qCi}
local macro_rules
| `(#[4])=>`(T K mg AL LN RU OW PL PA VO MA NE fE fH rR rO rP rA rV rM rN iR iO iP iA iV iM iN fL wR wO wP wA wV wM wN CO iC cH cE cW cT fN SE NG NL NT)
| `(#[5])=>`(Df P w K mg base cP)
| `(#[1,0])=>`(Md P w K mg base)
| `(#[1,1])=>`(Df P w K mg base (jB P w))
| `(#[1,2])=>`(by constructor<;>first|rfl|decide +kernel)
def pV(K:qAb):Sp:=fun vs H Q _=>∃v,vs=[v]/\Pl K H v/\Q (.bl (jO v)) H
theorem NH:aN ["thing"] ["thing"] (aH IZ):=#[1,2]
theorem JS(t:Tx K mg "is_number" IZ ["thing"] f fd)(T:#[4]):#[5] 1 "is_number" ["thing"] (pV K) f fd:=by
 refine t.jI NH (by rintro _ _ _ _⟨v,rfl,_⟩;rfl) fun _ _ _ _ H vs Q E hr h=>?_;obtain⟨v,rfl,pl,k⟩:=h;obtain⟨Ty,ty,kd⟩:=pl.ex;refine⟨_,aG (aS (kP (aM fT #[0] T.iT jC (aA (pv 0) (aA (gO (v:=.ty "int") #[0] T.hW iD rfl) aB)))
  (mK (xT (aM fT #[0] T.iT jC (aA (pv 0) (aA (gO (v:=.ty "bool") #[0] T.nC zY rfl) aB))))))),?_⟩
 exists _,rfl,v,.ty "int",_,_,_,rfl,rfl,.of ty,kd.Nd K,_,rfl;refine cU (fun h1=>?_) (fun h1=>?_)
 .exists _,rfl,v,.ty "bool",_,_,_,rfl,rfl,.of ty,kd.GJ K,_,rfl;have e:(!(Ty == "bool"))=jO v:=by
   rw[Pl.jO ty];cases kd <;> first | rfl | (exact absurd h1 #[1])
  rw[e];exact k
 .have e:false=jO v:=by
   rw[Pl.jO ty];cases kd <;> first | rfl | (exact absurd rfl h1)
  rw[e];exact k
def zD(K:qAb):Sp:=fun vs H Q _=>∃(v:V) (lo hi:Int),vs=[v,.int lo,.int hi]/\Pl K H v/\Q (.bl (mG lo hi v)) H
theorem JT:aN ["thing","least","most"] ["thing","least","most"] (aH DC):=#[1,2]
theorem FI(t:Tx K mg "is_number_within" DC ["thing","least","most"] f fd)(D:#[5] 1 "is_number" ["thing"] (pV K) f1 fd1):
  #[5] 2 "is_number_within" ["thing","least","most"] (zD K) f fd:=by
 refine t.jI JT (by rintro _ _ _ _⟨v,lo,hi,rfl,_⟩;rfl) fun _ _ _ _ H vs Q E hr h=>?_;obtain⟨v,lo,hi,rfl,pl,k⟩:=h;refine⟨_,aG (aS (kP (bH D hr (qAl _) #[0] (aA (pv 0) aB)) (mK (Ck vB vB (pv 1) (pv 0) (pv 2))))),?_⟩;exists _,rfl,v,rfl,pl,_,rfl;cases v with
 | int i =>
  refine dG ⟨_,rfl,_,rfl,lo,i,rfl,rfl,_,rfl,?_⟩;refine cU (fun h1=>⟨_,rfl,i,hi,rfl,rfl,?_⟩) (fun h1=>?_)
  .have e:decide (i<=hi)=mG lo hi (.int i):=by
    show _=(decide (lo<=i)&&decide (i<=hi));rw[h1,Bool.true_and]
   show Q (.bl (decide (i<=hi))) H;rw[e];exact k
  .have e:false=mG lo hi (.int i):=by
    show _=(decide (lo<=i)&&decide (i<=hi));rw[Bool.eq_false_iff.mpr h1,qEv]
   rw[e];exact k
 | _=>exact bK k
theorem NJ:aN ["_law_found"] ["_law_found"] (aH Jy):=#[1,2]
theorem JU(t:Tx K mg "_law_whole" Jy ["_law_found"] f fd)(T:#[4]):#[5] 1 "_law_whole" ["_law_found"] (pV K) f fd:=by
 refine t.jI NJ (by rintro _ _ _ _⟨v,rfl,_⟩;rfl) fun _ _ _ _ H vs Q E hr h=>?_;obtain⟨v,rfl,pl,k⟩:=h;obtain⟨Ty,ty,kd⟩:=pl.ex;refine⟨_,aG (aS (kP (aM fT #[0] T.iT jC (aA (pv 0) (aA (gO (v:=.ty "int") #[0] T.hW iD rfl) aB)))
  (mK (xT (aM fT #[0] T.iT jC (aA (pv 0) (aA (gO (v:=.ty "bool") #[0] T.nC zY rfl) aB))))))),?_⟩
 exists _,rfl,v,.ty "int",_,_,_,rfl,rfl,.of ty,kd.Nd K,_,rfl;refine cU (fun h1=>?_) (fun h1=>?_)
 .exists _,rfl,v,.ty "bool",_,_,_,rfl,rfl,.of ty,kd.GJ K,_,rfl;have e:(!(Ty == "bool"))=jO v:=by
   rw[Pl.jO ty];cases kd <;> first | rfl | (exact absurd h1 #[1])
  rw[e];exact k
 .have e:false=jO v:=by
   rw[Pl.jO ty];cases kd <;> first | rfl | (exact absurd rfl h1)
  rw[e];exact k
def DE(K:qAb)(NL:Addr):Sp:=fun vs H Q E=>∃v,vs=[v]/\Pl K H v/\if mG 1 6 v=true then Q .non H else E (.ref NL) none H
theorem NM:aN ["many"] ["many"] (aH Ja):=#[1,2]
theorem JV(t:Tx K mg "check_many" Ja ["many"] f fd)(T:#[4])(D_is_number_within:#[5] 2 "is_number_within" ["thing","least","most"] (zD K) f1 fd1):
  #[1,1] 3 "check_many" ["many"] (DE K NL) f fd:=by
 refine t.GI NM (by rintro _ _ _ _⟨v,rfl,_⟩;rfl) fun _ _ _ _ H vs Q E hr h=>?_;obtain⟨v,rfl,pl,k⟩:=h;refine⟨_,(aG (bN (eK (cZ (bH D_is_number_within hr #[1] #[0] (aA (pv 0) (aA aE (aA aE aB)))))) (aG (eM bD rfl #[0] T.BE T.BF (aA aY aB))) aZ)),?_⟩;exists _,rfl,v,1,6,rfl,pl,_,rfl;cases e:mG 1 6 v with
 | true =>
  rw[e,if_pos rfl] at k;exact bK k
 | false =>
  rw[e,if_neg qAn] at k;exact dG ⟨mH,k⟩
def FJ:Sp:=fun vs H Q _=>∃m:Nat,vs=[.int (m:Int)]/\m<=6/\∀H',aJ H H'->Q (.int (2^m-1)) H'
theorem BG:∀m:_root_.Fin 7,(jT.take m.1).sum=2^m.1-1:=by decide
theorem QU:aN ["many"] ["many"] (aH Qx):=#[1,2]
theorem NN(t:Tx K mg "whole_company" Qx ["many"] f fd)(T:#[4]):#[5] 1 "whole_company" ["many"] FJ f fd:=by
 refine t.jI QU (by rintro _ _ _ _⟨m,rfl,_⟩;rfl) fun _ _ _ s H vs Q E hr h=>?_;obtain⟨m,rfl,hm,k⟩:=h;refine⟨_,(aG (aS (aM (fB rfl) #[0] T.hX iE (aA (dP zZ (cB (v:=.ref AL) #[0] T.xS rfl) eP (eQ (pv 0))) aB)))),?_⟩;refine⟨_,rfl,_,rfl,AL,_,rfl,T.al _,fun p H' s hq=>⟨p,jT.take m,rfl,.inr ?_,?_⟩⟩
 .rw[zC,<- qNj] at hq;exact hq
 .rw[BG ⟨m,by lia⟩];exact k H' s
def wG(K:qAb)(NG:Addr):Sp:=fun vs H Q E=>∃(v:V) (m:Nat),vs=[v,.int (m:Int)]/\m<=6/\Pl K H v/\(mG 0 (2^m-1) v=false->∀H',aJ H H'->E (.ref NG) none H')/\(mG 0 (2^m-1) v=true->∀H',aJ H H'->Q .non H')
theorem NO:aN ["group","many"] ["group","many"] (aH Jb):=#[1,2]
theorem JW(t:Tx K mg "check_group" Jb ["group","many"] f fd)(T:#[4])(D_is_number_within:#[5] 2 "is_number_within" ["thing","least","most"] (zD K) f1 fd1)
  (D_whole_company:#[5] 1 "whole_company" ["many"] FJ f2 fd2):#[1,1] 3 "check_group" ["group","many"] (wG K NG) f fd:=by
 refine t.GI NO (by rintro _ _ _ _⟨v,m,rfl,_⟩;rfl) fun _ _ _ s H vs Q E hr h=>?_;obtain⟨v,m,rfl,hm,pl,k0,k⟩:=h;refine⟨_,(aG (bN (eK (cZ (bH D_is_number_within hr #[1] #[0] (aA (pv 0) (aA aE (aA (bH D_whole_company hr #[1] #[0] (aA (pv 1) aB)) aB)))))) (aG (eM bD rfl #[0] T.NA T.NF (aA aY aB))) aZ)),?_⟩;refine⟨_,rfl,_,rfl,m,rfl,hm,fun H' s=>⟨v,0,_,rfl,pl.same s,_,rfl,?_⟩⟩;cases e:mG 0 (2^m-1) v with
 | true=>exact bK (k e H' s)
 | false=>exact dG ⟨mH,k0 e H' s⟩
theorem lU(h0:0<=i)(h5:i<=5):fM (jT.map V.int) i=some (.int (alone i.toNat)):=by
 have h:i.toNat<6:=by lia
 have all:∀j:_root_.Fin 6,(jT.map V.int)[j.1]?=some (.int (alone j.1)):=by decide
 have z:=bS (all ⟨i.toNat,h⟩);rw[show(((⟨i.toNat,h⟩:_root_.Fin 6).1:Nat):Int)=i from qGo h0] at z;exact z
def DF(K:qAb)(NG:Addr):Sp:=fun vs H Q E=>∃v,vs=[v]/\Pl K H v/\(mG 0 (2^6-1) v=false->∀H',aJ H H'->E (.ref NG) none H') /\
 ∀(g:Nat) (l:Addr) (H':Hp),v = .int (g:Int)->g<64->H l=none->aJ H H'->H' l=some (.lst ((dH g).map V.int))->Q (.ref l) H'
theorem NP:aN ["group"] ["group"] (aH Jc):=#[1,2]
theorem JX(t:Tx K mg "hands_of" Jc ["group"] f fd)(T:#[4])(D_check_group:#[1,1] 3 "check_group" ["group","many"] (wG K NG) f1 fd1):
  #[1,1] 4 "hands_of" ["group"] (DF K NG) f fd:=by
 refine t.GI NP (by rintro _ _ _ _⟨v,rfl,_⟩;rfl) fun _ _ _ _ H vs Q E hr h=>?_;obtain⟨v,rfl,pl,k0,k⟩:=h;refine⟨_,(aD (bQ (fA bD.toPass D_check_group hr #[1] #[0] (aA (pv 0) (aA (aM aU #[0] T.cG bV (aA (cB (v:=.ref AL) #[0] T.xS rfl) aB)) aB))))
  (aG (aS (bP (NB:=["hand","group"]) (pick:=[none,some 0]) (bT #[7] (by exact(And.intro rfl trivial)) rfl #[2] #[2] #[0] #[0]) rfl
    (c8 #[0] T.cO (aA (aM aU #[0] T.cG bV (aA (cB (v:=.ref AL) #[0] T.xS rfl) aB)) aB)) (fun _ _ _=>aK (i:=0) #[8,["hand","group"]] rfl cC)
    (fun _ _ _=>gL (aP hV (aL fG (pv 1) (aX (gQ K) (cB (v:=.ref AL) #[0] T.xS rfl) (pv 0) #[6])) aE (aT _))) (fun _ _ _=>(pv 0)))))),?_⟩
 refine⟨_,rfl,AL,_,rfl,.inr (T.al _),v,6,rfl,by decide,pl,k0,fun h1 H' s1=>?_⟩;obtain⟨g,rfl,hg⟩:=lQ h1;have hg:g<64:=hg;refine⟨AL,_,rfl,.inr (T.al _),_,rfl,by decide,by decide,?_⟩;refine CL (sI g) #[1] (fun i H2 kk kk0 hi h1 h2=>?_) fun D hD=>?_
 .obtain⟨j,rfl⟩:∃j:Nat,j=i:=⟨i,rfl⟩;have e0:(0:Int)+(j:Int)=(j:Int):=qEh _;have hat:fM (jT.map V.int) ((0:Int)+(j:Int))=some (.int (alone j)):=by
   rw[e0];have z:=lU (i:=(j:Int)) (by lia) (by have:j<6:=hi;lia);simpa using z
  exists _,rfl,_,rfl,AL,_,_,_,rfl,rfl,T.al _,hat,_,_,rfl,rfl,rfl,_,rfl;refine cU (fun h3=>⟨_,rfl,h1 _ ?_⟩) (fun h3=>h2 ?_)
  .have z:¬V.int (qBm (g:Int) (alone j))=V.int 0:=of_decide_eq_false (by
    have z:(!decide (V.int (qBm (g:Int) (alone j))=V.int 0))=true:=h3;simpa using z)
   rw[e0];delta sI;rw[if_neg fun q=>z (congrArg V.int q)]
  .delta sI;refine if_pos (qDb fun q=>h3 ?_);show(!decide (V.int (qBm (g:Int) (alone j))=V.int 0))=true;rw[decide_eq_false fun z=>q (V.int.inj z)];rfl
 .have e':(qAh 6).filterMap (sI g)=(dH g).map V.int:=y9 ⟨g,hg⟩;show Q _ (upd H' D (.lst ((qAh 6).filterMap (sI g))));rw[e'];exact k g D _ rfl hg (s1.free hD) (s1.trans (.aI hD)) aC
def kF(xs:List V):Bool:=[2,4,8,16,32,64].contains xs.length&&xs.all jO&&decide (xs[0]?=some (.int 0))
def GP(K:qAb):Sp:=fun vs H Q _=>∃(p:Addr) (xs:List V),vs=[.ref p]/\H p=some (.lst xs)/\(∀v∈xs,Pl K H v)/\xs.length<=1000/\∀H',aJ H H'->Q (.bl (kF xs)) H'
theorem NQ:aN ["thing"] ["thing"] (aH Jd):=#[1,2]
theorem FK(n:Nat):(!BZ (.int (n:Int)) (gH (lT.map V.int) (some 1) none)) = !([2,4,8,16,32,64].contains n):=by
 have e:gH (lT.map V.int) (some 1) none=[V.int 2,.int 4,.int 8,.int 16,.int 32,.int 64]:=by decide
 rw[e];have q:∀k:Nat,EY (.int (k:Int)) (.int (n:Int))=(n == k):=fun k=>by
  show((k:Int) == (n:Int))=(n == k);rw[qEz,beq_iff_eq,beq_iff_eq];lia
 have:=q 2;have:=q 4;have:=q 8;have:=q 16;have:=q 32;have:=q 64;simp_all [BZ];rfl
theorem JY(t:Tx K mg "is_table" Jd ["thing"] f fd)(T:#[4])(D_is_number:#[5] 1 "is_number" ["thing"] (pV K) f1 fd1):
  #[5] 2 "is_table" ["thing"] (GP K) f fd:=by
 refine t.jI NQ (by rintro _ _ _ _⟨p,xs,rfl,_⟩;rfl) fun _ _ _ _ H vs Q E hr h=>?_;obtain⟨p,xs,rfl,hp,pl,hlen,k⟩:=h;refine⟨_,(aD (bN (PW.pt (pw_or (eK (cZ (aM fT #[0] T.iT jC (aA (pv 0) (aA (gO (v:=.ty "list") #[0] T.fK fU rfl) aB))))) (pw_or1 (aP jA (aM aU #[0] T.cG bV (aA (pv 0) aB)) (dP zZ (cB (v:=.ref LN) #[0] T.GO rfl) (eQ aE) eP) #[0])))) (aG (aS gW)) aZ)
  (aG (aS (kP (aM (pE rfl) #[0] T.pS yN (aA (bP (NB:=["number"]) (pick:=[none]) (bT #[7] (by exact trivial) rfl #[2] #[2] #[0] #[0]) rfl
    (bM (pv 0)) (fun _ _ _=>aK (i:=0) #[8,["number"]] rfl cC)
    (fun _ _ _=>bX) (fun _ _ _=>(bH D_is_number hr #[1] #[0] (aA (pv 0) aB)))) aB)) (mK (dD bU (aX bF (pv 0) aE #[6]) aE (aT _))))))),?_⟩
 refine⟨_,rfl,.ref p,.ty "list",_,_,_,rfl,rfl,.of (.lst hp),Kd.lst.CN K,_,rfl,bK ?_⟩;refine⟨_,rfl,p,_,rfl,.inl (aV.of hp),_,rfl,LN,_,rfl,T.ln _,fun q H1 s1 hq=>⟨q,_,rfl,.inr hq,rfl,by decide,_,rfl,?_⟩⟩;show if (!BZ (.int (xs.length:Int)) (gH (lT.map V.int) (some 1) none))=true then _ else _;rw[FK];cases ec:[2,4,8,16,32,64].contains xs.length with
 | false =>
  have e:false=kF xs:=by delta kF;rw[ec];rfl
  refine dG ?_;have z:=k H1 s1;rw[<- e] at z;exact z
 | true =>
  refine bK ⟨_,rfl,p,rfl,⟨xs,aV.of (s1 _ _ hp)⟩,?_⟩;refine cV (xs:=xs) (fun _ x=>some (.bl (jO x))) (aV.of (s1 _ _ hp)) (qBb (aO hlen)) (fun i x H2 kk kk0 s2 hx h1 h2=>?_) fun D H2 hD s2 hd=>?_
  .exact⟨_,rfl,x,rfl,(pl x (qAq hx)).same (s1.trans s2),h1 _ rfl _ (.refl _)⟩
  .have ed:((qAh xs.length).filterMap fun i=>(xs[i]?).bind fun x=>some (V.bl (jO x)))=(xs.map jO).map V.bl:=by
    rw[qBo,<- tP];rfl
   rw[ed] at hd;exists D,_,rfl,aV.of hd,_,rfl;have ea:(xs.map jO).all id=xs.all jO:=by rw[qLg];rfl
   rw[ea];cases eb:xs.all jO with
   | false =>
    have e:false=kF xs:=by delta kF;rw[ec,eb];rfl
    refine bK ?_;have z:=k H2 (s1.trans s2);rw[<- e] at z;exact z
   | true =>
    have hpos:0<xs.length:=by
     cases xs with
     | nil=>exact absurd ec #[1]
     | cons _ _=>exact qOf _
    obtain⟨i,hi⟩:∃i,xs[0]?=some (.int i):=by
     have hm:=List.all_eq_true.mp eb xs[0] (qDm hpos);cases e0:xs[0] with
     | int i=>exact⟨i,by rw[qAc hpos,e0]⟩
     | _=>rw[e0] at hm;exact(qAn hm).elim
    refine dG ⟨_,rfl,p,_,_,_,rfl,rfl,aV.of (s2 _ _ (s1 _ _ hp)),bS hi,rfl,?_⟩;have e:decide (V.int i=V.int 0)=kF xs:=by delta kF;rw[ec,eb,hi];simp
    show Q (.bl (decide (V.int i=V.int 0))) H2;rw[e];exact k H2 (s1.trans s2)
def DG(K:qAb)(NT:Addr):Sp:=fun vs H Q E=>∃(p:Addr) (xs:List V),vs=[.ref p]/\H p=some (.lst xs)/\(∀v∈xs,Pl K H v)/\xs.length<=1000/\(kF xs=false->∀H',aJ H H'->E (.ref NT) none H') /\
 ∀m:Nat,1<=m->m<=6->xs.length=2^m->kF xs=true->∀H',aJ H H'->Q (.int (m:Int)) H'
theorem NR:aN ["table"] ["table"] (aH Je):=#[1,2]
theorem FL(h:kF xs=true):∃m:Nat,1<=m/\m<=6/\xs.length=2^m:=by
 have z:[2,4,8,16,32,64].contains xs.length=true:=by
  delta kF at h;rw[qAv,qAv] at h;exact h.1.1
 have z:xs.length∈[2,4,8,16,32,64]:=by simpa using z
 simp only[qEe,qCs,or_false] at z;rcases z with z | z | z | z | z | z
 .exact⟨1,by decide,by decide,z⟩
 .exact⟨2,by decide,by decide,z⟩
 .exact⟨3,by decide,by decide,z⟩
 .exact⟨4,by decide,by decide,z⟩
 .exact⟨5,by decide,by decide,z⟩
 .exact⟨6,by decide,by decide,z⟩
theorem FN:∀m:_root_.Fin 7,lT[m.1]?=some ((2:Int)^m.1)/\∀j:_root_.Fin 7,j.1<m.1->lT[j.1]?≠some ((2:Int)^m.1):=by decide
theorem JZ(t:Tx K mg "hands_in" Je ["table"] f fd)(T:#[4])(D_is_table:#[5] 2 "is_table" ["thing"] (GP K) f1 fd1):
  #[1,1] 3 "hands_in" ["table"] (DG K NT) f fd:=by
 refine t.GI NR (by rintro _ _ _ _⟨p,xs,rfl,_⟩;rfl) fun _ _ _ _ H vs Q E hr h=>?_;obtain⟨p,xs,rfl,hp,pl,hlen,k0,k⟩:=h;refine⟨_,(aD (bN (eK (cZ (bH D_is_table hr #[1] #[0] (aA (pv 0) aB)))) (aG (eM bD rfl #[0] T.NC T.ND (aA aY aB))) aZ)
  (aG (aS (eD PySem.F.plainAttrs_tuple PySem.F.slot_tuple_index PySem.F.type_tuple_index CS (cB (v:=.ref LN) #[0] T.GO rfl) (aA (aM aU #[0] T.cG bV (aA (pv 0) aB)) aB))))),?_⟩
 refine⟨_,rfl,p,xs,rfl,hp,pl,hlen,fun H1 s1=>⟨_,rfl,?_⟩⟩;cases e:kF xs with
 | false=>exact dG ⟨mH,k0 e H1 s1⟩
 | true =>
  obtain⟨m,h1,h6,hm⟩:=FL e;obtain⟨l1,l2⟩:=FN ⟨m,by lia⟩;refine bK ⟨.inr (.inl ⟨rfl,T.Sl⟩),_,rfl,p,_,rfl,.inl (aV.of (s1 _ _ hp)),LN,lT,_,m,rfl,rfl,T.ln _,?_,?_,k m h1 h6 hm e H1 s1⟩
  .rw[hm,l1];push_cast;rfl
  .intro j hj;have z:=l2 ⟨j,by lia⟩ hj;rw[hm];intro q;refine z (q.trans ?_);push_cast;rfl
def wH(K:qAb)(NL:Addr):Sp:=fun vs H Q E=>∃(p:Addr) (xs:List V),vs=[.ref p]/\(H p=some (.lst xs)\/H p=some (.tup xs))/\(∀v∈xs,Pl K H v)/\xs.length<=1000/\(xs.all jO=false->∀H',aJ H H'->E (.ref NL) none H')/\(xs.all jO=true->∀H',aJ H H'->Q .non H')
theorem NS:aN ["things"] ["things"] (aH Jf):=#[1,2]
theorem Ka(t:Tx K mg "check_numbers" Jf ["things"] f fd)(T:#[4])(D_is_number:#[5] 1 "is_number" ["thing"] (pV K) f1 fd1):
  #[1,1] 2 "check_numbers" ["things"] (wH K NL) f fd:=by
 refine t.GI NS (by rintro _ _ _ _⟨p,xs,rfl,_⟩;rfl) fun _ _ _ _ H vs Q E hr h=>?_;obtain⟨p,xs,rfl,hp,pl,hlen,k0,k⟩:=h;refine⟨_,(aG (bN (eK (cZ (aM (pE rfl) #[0] T.pS yN (aA (bP (NB:=["thing"]) (pick:=[none]) (bT #[7] (by exact trivial) rfl #[2] #[2] #[0] #[0]) rfl
    (IG (pv 0)) (fun _ _ _=>aK (i:=0) #[8,["thing"]] rfl cC)
    (fun _ _ _=>bX) (fun _ _ _=>(bH D_is_number hr #[1] #[0] (aA (pv 0) aB)))) aB)))) (aG (eM bD rfl #[0] T.BE T.BF (aA aY aB))) aZ)),?_⟩
 have fin:∀(D:Addr) (H2:Hp),aJ H H2->H2 D=some (.lst ((qAh xs.length).filterMap fun i=>(xs[i]?).bind fun x=>some (V.bl (jO x)))) ->
   ∃bs:List Bool,aV K H2 D (bs.map V.bl)/\bs.all id=xs.all jO:=fun D H2 s2 hd=>by
  refine⟨xs.map jO,?_,by rw[qLg];rfl⟩;rw[qBo,<- tP] at *;exact aV.of hd
 have step:∀(i:Nat) (x:V) (H2:Hp),aJ H H2->xs[i]?=some x->Pl K H2 x:=fun i x H2 s2 hx=>(pl x (qAq hx)).same s2;have endk:∀(D:Addr) (H2:Hp) (bs:List Bool),aJ H H2->bs.all id=xs.all jO->if (!(bs.all id))=true then (1<=qAg/\E (.ref NL) none H2) else Q .non H2:=fun D H2 bs s2 e=>by
  rw[e];cases eb:xs.all jO with
  | false=>exact dG ⟨by decide,k0 eb H2 s2⟩
  | true=>exact bK (k eb H2 s2)
 rcases hp with hp | hp
 .refine⟨_,rfl,p,rfl,.inl ⟨⟨xs,aV.of hp⟩,?_⟩⟩;refine cV (xs:=xs) (fun _ x=>some (.bl (jO x))) (aV.of hp) (qBb (aO hlen)) (fun i x H2 kk kk0 s2 hx h1 h2=>?_) fun D H2 hD s2 hd=>?_
  .exact⟨_,rfl,x,rfl,step i x H2 s2 hx,h1 _ rfl _ (.refl _)⟩
  .obtain⟨bs,q1,q2⟩:=fin D H2 s2 hd;exact⟨D,bs,rfl,q1,_,rfl,endk D H2 bs s2 q2⟩
 .refine⟨_,rfl,p,rfl,.inr ⟨⟨xs,cQ.of hp⟩,?_⟩⟩;refine CT (xs:=xs) (fun _ x=>some (.bl (jO x))) (cQ.of hp) (qBb (aO hlen)) (fun i x H2 kk kk0 s2 hx h1 h2=>?_) fun D H2 hD s2 hd=>?_
  .exact⟨_,rfl,x,rfl,step i x H2 s2 hx,h1 _ rfl _ (.refl _)⟩
  .obtain⟨bs,q1,q2⟩:=fin D H2 s2 hd;exact⟨D,bs,rfl,q1,_,rfl,endk D H2 bs s2 q2⟩
def BH(m:Int):List V->Bool
 | [.int i,.int j,.int _]=>decide (0<=i)&&decide (i<j)&&decide (j<m)
 | _=>false
theorem zE(h:BH m xs=true):∃i j n:Int,xs=[.int i,.int j,.int n]/\0<=i/\i<j/\j<m:=by
 delta BH at h;split at h
 .rename_i i j n;rw[qAv,qAv] at h;exact⟨i,j,n,rfl,of_decide_eq_true h.1.1,of_decide_eq_true h.1.2,of_decide_eq_true h.2⟩
 .cases h
theorem zF(h:¬∃i j n:Int,xs=[.int i,.int j,.int n]/\0<=i/\i<j/\j<m):BH m xs=false:=by
 cases e:BH m xs with
 | false=>rfl
 | true=>exact absurd (zE e) h
def GQ(K:qAb)(NL:Addr):Sp:=fun vs H Q E=>∃(m:Int) (a:Addr) (xs:List V),vs=[.int m,.ref a]/\H a=some (.tup xs)/\(∀v∈xs,Pl K H v)/\xs.length<=1000/\(BH m xs=false->∀H',aJ H H'->E (.ref NL) none H')/\(BH m xs=true->∀H',aJ H H'->Q .non H')
theorem NU:aN ["many","pair"] ["many","pair"] (aH Jg):=#[1,2]
theorem Kb(t:Tx K mg "check_pair" Jg ["many","pair"] f fd)(T:#[4])(D_check_numbers:#[1,1] 2 "check_numbers" ["things"] (wH K NL) f1 fd1):
  #[1,1] 3 "check_pair" ["many","pair"] (GQ K NL) f fd:=by
 refine t.GI NU (by rintro _ _ _ _⟨m,a,xs,rfl,_⟩;rfl) fun _ _ _ _ H vs Q E hr h=>?_;obtain⟨m,a,xs,rfl,ha,pl,hlen,k0,k⟩:=h;refine⟨_,(aD (bN (PW.pt (pw_or (eK (cZ (aM fT #[0] T.iT jC (aA (pv 1) (aA (gO (v:=.ty "tuple") #[0] T.j9 vN rfl) aB))))) (pw_or1 (aP hV (aM aU #[0] T.cG bV (aA (pv 1) aB)) aE (aT _))))) (aG (eM bD rfl #[0] T.BE T.BF (aA aY aB))) aZ)
  (aD (bQ (fA bD.toPass D_check_numbers hr #[1] #[0] (aA (pv 1) aB)))
  (aG (bN (eK (Bg vB jM jM aE (aX bL (pv 1) aE #[6]) (aX bL (pv 1) aE #[6]) (pv 0))) (aG (eM bD rfl #[0] T.BE T.BF (aA aY aB))) aZ)))),?_⟩
 refine⟨_,rfl,.ref a,.ty "tuple",_,_,_,rfl,rfl,.of (.tup ha),Kd.tup.CP K,_,rfl,bK ?_⟩;exists _,rfl,a,_,rfl,.inr (cQ.of ha),rfl,_,rfl;refine cU (fun h3=>?_) (fun h3=>?_)
 .refine⟨mH,k0 (zF ?_) H (.refl H)⟩;rintro⟨i,j,n,rfl,_⟩;have e:decide (V.int (([V.int i,V.int j,V.int n].length:Nat):Int)=V.int 3)=true:=decide_eq_true rfl;rw[e] at h3;cases h3
 have e3:xs.length=3:=by
  refine qDb fun z=>h3 ?_;rw[decide_eq_false]
  .rfl
  .intro q;have:=V.int.inj q;lia
 refine⟨_,rfl,a,_,rfl,.inr ha,pl,hlen,fun no H1 s1=>k0 (zF ?_) H1 s1,fun yes H1 s1=>?_⟩
 .rintro⟨i,j,n,rfl,_⟩;exact absurd no (by show ¬true=false;decide)
 obtain⟨i,j,n,rfl⟩:∃i j n:Int,xs=[.int i,.int j,.int n]:=by
  match xs,e3,yes with
  | [u,v,w'],_,yes =>
   rw[qJm] at yes;have y1:=yes u (by simp);have y2:=yes v (by simp);have y3:=yes w' (by simp);cases u <;> first | (exact absurd y1 qAn) | skip
   cases v <;> first | (exact absurd y2 qAn) | skip
   cases w' <;> first | (exact absurd y3 qAn) | skip
   exact⟨_,_,_,rfl⟩
 have fail:¬(0<=i/\i<j/\j<m)->1<=qAg/\E (.ref NL) none H1:=fun z=>⟨by decide,k0 (zF (by
  rintro⟨i',j',n',e,z'⟩;cases e;exact z z')) H1 s1⟩
 exists _,rfl,a,_,_,_,rfl,rfl,cQ.of (s1 _ _ ha),rfl,_,_,rfl,rfl,_,rfl;refine cU (fun h1=>?_) (fun h1=>dG (fail fun z=>h1 (decide_eq_true z.1)));exists _,rfl,a,_,_,_,rfl,rfl,cQ.of (s1 _ _ ha),rfl,_,_,rfl,rfl,_,rfl;refine cU (fun h2=>?_) (fun h2=>dG (fail fun z=>h2 (decide_eq_true z.2.1)));exists _,rfl,_,_,rfl,rfl,_,rfl;cases h3':decide (j<m) with
 | false=>exact dG (fail fun z=>(of_decide_eq_false h3') z.2.2)
 | true =>
  refine bK (k ?_ H1 s1);show(decide (0<=i)&&decide (i<j)&&decide (j<m))=true;rw[h1,h2,h3'];rfl
def gR:List V->Int×Int
 | [.int i,.int j,.int _]=>(i,j)
 | _=>(0,0)
def g7(m:Int):List (Int×Int)->List (List V)->Bool
 | _,[]=>true
 | seen,xs::r=>BH m xs && !(seen.contains (gR xs))&&g7 m (seen++[gR xs]) r
def uA(m:Int)(xss:List (List V)):Bool:=g7 m [] xss
theorem pX:∀{xss:List (List V)}{seen:List (Int×Int)},g7 m seen xss=true->∀xs∈xss,BH m xs=true
 | [],_,_,xs,h=>by cases h
 | x::r,seen,h,xs,hx=>by
  have h':(BH m x && !(seen.contains (gR x))&&g7 m (seen++[gR x]) r)=true:=h;rw[qAv,qAv] at h';rcases List.mem_cons.mp hx with rfl | hx
  .exact h'.1.1
  .exact pX h'.2 xs hx
def pY(ks:List (Int×Int)):List (List Key×V):=ks.map fun k=>([Sum.inl k.1,Sum.inl k.2],V.bl true)
theorem nD(i j:Int):∀ks:List (Int×Int),cM (pY ks) [Sum.inl i,Sum.inl j]=if ks.contains (i,j)=true then some (.bl true) else none
 | []=>rfl
 | k::r=>by
  have ih:=nD i j r;by_cases e:k=(i,j)
  .subst e;rw[if_pos (by simp)];exact dQ (p:=([Sum.inl i,Sum.inl j],V.bl true)) rfl
  .have z:cM (pY (k::r)) [Sum.inl i,Sum.inl j]=cM (pY r) [Sum.inl i,Sum.inl j]:=dR (p:=([Sum.inl k.1,Sum.inl k.2],V.bl true)) (r:=pY r) (fun q=>e (by
    have q1:=List.cons.inj q;have q2:=List.cons.inj q1.2;exact Prod.ext (Sum.inl.inj q1.1) (Sum.inl.inj q2.1)))
   rw[z,ih];have e2:((k::r).contains (i,j))=r.contains (i,j):=by
    rw[List.contains_cons];have:((i,j) == k)=false:=by
     rw[beq_eq_false_iff_ne];exact fun q=>e q.symm
    rw[this,qNm]
   rw[e2]
def gN(H:Hp)(a:Addr):List V:=match H a with
 | some (.tup xs)=>xs
 | _=>[]
theorem eJ(h:H a=some (.tup xs)):gN H a=xs:=by
 delta gN;rw[h]
def BI(K:qAb)(H:Hp)(as:List Addr):Prop:=∀a∈as,∃xs,H a=some (.tup xs)/\(∀v∈xs,Pl K H v)/\xs.length<=1000
theorem BI.eq(t:BI K H as)(s:∀a xs,H a=some (.tup xs)->H' a=some (.tup xs)):as.map (gN H')=as.map (gN H):=by
 refine qDa fun a ha=>?_;obtain⟨xs,h,_⟩:=t a ha;rw[eJ h,eJ (s a xs h)]
def zG(p q:Int×Int):Prop:=p.1<q.1\/p.1=q.1/\p.2<q.2
def FO(m:Int)(k:Int×Int):Nat:=k.1.toNat*m.toNat+k.2.toNat
theorem uB(a0:0<=i)(a1:i<j)(a2:j<m)(b0:0<=i')(b1:i'<j')(b2:j'<m):FO m (i,j)<FO m (i',j')↔zG (i,j) (i',j'):=by
 show i.toNat*m.toNat+j.toNat<i'.toNat*m.toNat+j'.toNat↔i<i'\/i=i'/\j<j';rcases Int.lt_trichotomy i i' with h | h | h
 .have z:=qEd m.toNat (show i.toNat+1<=i'.toNat by lia);rw[qMb,qOn] at z;exact⟨fun _=>.inl h,fun _=>by lia⟩
 .subst h;exact⟨fun _=>.inr ⟨rfl,by lia⟩,fun _=>by lia⟩
 .have z:=qEd m.toNat (show i'.toNat+1<=i.toNat by lia);rw[qMb,qOn] at z;exact⟨fun _=>by lia,fun _=>by lia⟩
theorem QW(a0:0<=i)(a1:i<j)(a2:j<m)(b0:0<=i')(b1:i'<j')(b2:j'<m)(hn:(i,j)=(i',j')->n=n'):HT.lexLt [i,j,n] [i',j',n']=decide (FO m (i,j)<FO m (i',j')):=by
 rw[decide_eq_decide.mpr (uB a0 a1 a2 b0 b1 b2),HT.gG];show _=decide (i<i'\/i=i'/\j<j');by_cases e:i=i'
 .rw[if_pos e,HT.gG];by_cases e2:j=j'
  .rw[if_pos e2,HT.gG,if_pos (hn (by rw[e,e2]))];exact(decide_eq_false (by lia)).symm
  .rw[if_neg e2];exact decide_eq_decide.mpr (by lia)
 .rw[if_neg e];exact decide_eq_decide.mpr (by lia)
theorem sL:∀{xss:List (List V)}{seen:List (Int×Int)},g7 m seen xss=true->seen.Nodup->(seen++xss.map gR).Nodup
 | [],seen,_,h=>by rw[qEn,qCl];exact h
 | x::r,seen,h,hs=>by
  have h':(BH m x && !(seen.contains (gR x))&&g7 m (seen++[gR x]) r)=true:=h;rw[qAv,qAv] at h';have z:=sL h'.2 (by
   rw[qIy];refine⟨hs,by simp,fun a ha b hb=>?_⟩;rw[qCz] at hb;subst hb;intro e;subst e;have:=h'.1.2;simp[ha] at this)
  rw[qDy] at z;exact z
theorem pw_mem:∀{l:List α},l.Pairwise R->∀{a b:α},a∈l->b∈l->a≠b->R a b\/R b a
 | [],_,a,b,ha,_,_=>by cases ha
 | x::l,h,a,b,ha,hb,ne=>by
  rw[qIu] at h;rcases List.mem_cons.mp ha with rfl | ha'
  .rcases List.mem_cons.mp hb with rfl | hb'
   .exact absurd rfl ne
   .exact .inl (h.1 _ hb')
  .rcases List.mem_cons.mp hb with rfl | hb'
   .exact .inr (h.1 _ ha')
   .exact pw_mem h.2 ha' hb' ne
def lV(H:Hp)(a:Addr):Int×Int:=gR (gN H a)
theorem DH{m:Int}{H:Hp}{as:List Addr}(h:uA m (as.map (gN H))=true):as.Pairwise fun a b=>lV H a≠lV H b:=by
 have z:=sL h qKj;rw[qFo,qBo] at z;exact List.pairwise_map.mp z
def Ae(K:qAb)(NL:Addr):Sp:=fun vs H Q E=>∃(m:Int) (p:Addr) (as:List Addr),vs=[.int m,.ref p]/\H p=some (.lst (as.map V.ref))/\BI K H as/\as.length<64/\(uA m (as.map (gN H))=false->∀H',aJ H H'->E (.ref NL) none H') /\
 (uA m (as.map (gN H))=true->∀(l:Addr) (bs:List Addr) (H':Hp),H l=none->bs.Perm as->bs.Pairwise (fun a b=>zG (lV H a) (lV H b))->aJ H H'->H' l=some (.lst (bs.map V.ref))->Q (.ref l) H')
theorem Af:aN ["many","pairs","seen","pair","hands"] ["many","pairs"] (aH Jh):=#[1,2]
theorem Kc{f1:Addr}{fd1:qCi}(t:Tx K mg "sorted_pairs" Jh ["many","pairs"] f fd)(T:#[4])(D_check_pair:#[1,1] 3 "check_pair" ["many","pair"] (GQ K NL) f1 fd1):
  #[1,1] 4 "sorted_pairs" ["many","pairs"] (Ae K NL) f fd:=by
 refine t.GI Af (by rintro _ _ _ _⟨m,p,as,rfl,_⟩;rfl) fun _ _ _ _ H vs Q E hr h=>?_;obtain⟨m,p,as,rfl,hp,ht,h64,k0,k⟩:=h;refine⟨_,(aD (bB (i:=2) Af.nd rfl cC vV)
  (aD (dJ bD.own rfl (bM (pv 1)) (aK (i:=3) Af.nd rfl cC)
   (aD (bQ (fA bD.toPass D_check_pair hr #[1] #[0] (aA (pv 0) (aA (pv 3) aB))))
   (aD (bB (i:=4) Af.nd rfl cC (cJ (aA (aX bL (pv 3) aE #[6]) (aA (aX bL (pv 3) aE #[6]) aB))))
   (aD (bN (Cd (IL (gZ hr) (pv 4) (pv 2))) (aG (eM bD rfl #[0] T.BE T.BF (aA aY aB))) aZ)
   (aG (j5 (gZ hr) (pv 2) (pv 4) gW rfl))))))
  (aG (aS (aM qX #[0] T.iU sC (aA (pv 1) aB)))))),?_⟩
 refine fun d hd=>⟨_,rfl,p,rfl,⟨_,aV.of (aJ.aI hd _ _ hp)⟩,?_⟩;refine fR (xs:=as.map V.ref) (fun i σ' H'=>aJ H H'/\(∃o3 o4:Option V,σ'=[some (.int m),some (.ref p),some (.ref d),o3,o4])/\∃ks:List (Int×Int),ks.length<=i/\H' d=some (.dT (pY ks))/\uA m (as.map (gN H))=g7 m ks ((as.map (gN H)).drop i)) ?_ ?_ ?_ ?_
 .exact⟨.aI hd,⟨_,_,rfl⟩,[],qBf _,aC,rfl⟩
 .rintro i σ' H' _ ⟨s1,_⟩;exact aV.of (s1 _ _ hp)
 .rintro i x σ' H' hx ⟨s1,⟨o3,o4,rfl⟩,ks,hks,hd1,he⟩;obtain⟨a,ha,rfl⟩:∃a,as[i]?=some a/\x = .ref a:=by
   rw[qAf] at hx;cases e:as[i]? with
   | none=>rw[e] at hx;cases hx
   | some y=>rw[e] at hx;exact⟨y,rfl,(Option.some.inj hx).symm⟩
  have hi:i<as.length:=by
   rcases qBj i as.length with z | z
   .exact z
   .rw[qCu z] at ha;cases ha
  obtain⟨xs,hxs,pl,hlen⟩:=ht a (qAq ha);have hdrop:(as.map (gN H)).drop i=xs::(as.map (gN H)).drop (i+1):=by
   rw[List.drop_eq_getElem_cons (by rw[qAa];exact hi),List.getElem_map];have:as[i]=a:=Option.some.inj ((qAc hi).symm.trans ha);rw[this,eJ hxs]
  rw[hdrop] at he;have he':uA m (as.map (gN H))=(BH m xs && !(ks.contains (gR xs))&&g7 m (ks++[gR xs]) ((as.map (gN H)).drop (i+1))):=he;refine⟨_,rfl,_,rfl,m,a,xs,rfl,s1 _ _ hxs,fun v hv=>(pl v hv).same s1,hlen,fun no H2 s2=>?_,fun yes H2 s2=>?_⟩
  .exact k0 (by rw[he',no];rfl) H2 (s1.trans s2)
  obtain⟨u,v,n,rfl,_⟩:=zE yes;have ha2:=s2 _ _ (s1 _ _ hxs);refine⟨_,rfl,a,_,_,_,rfl,rfl,cQ.of ha2,rfl,_,rfl,a,_,_,_,rfl,rfl,cQ.of ha2,rfl,kY,fun tt htt=>?_⟩;have u3:=aJ.aI (o:=.tup [V.int u,V.int v]) htt;have hd3:=u3 _ _ (s2 _ _ hd1);exists _,rfl,_,rfl,d,_,rfl,kR.t (k:=[Sum.inl u,Sum.inl v]) hd3 aC,_,rfl;rw[nD];cases hc:ks.contains (u,v) with
  | true =>
   rw[if_pos rfl];refine dG ⟨mH,k0 ?_ _ ((s1.trans s2).trans u3)⟩;rw[he',show gR [V.int u,V.int v,V.int n]=(u,v) from rfl,hc,yes];rfl
  | false =>
   rw[if_neg qAn];refine bK ⟨_,rfl,_,rfl,d,_,rfl,qU.t (k:=[Sum.inl u,Sum.inl v]) hd3 aC (by delta pY;rw[qAa];exact aO (by lia)),?_⟩;exists ((s1.trans s2).trans u3).upd_ne' hd,⟨_,_,rfl⟩,ks++[(u,v)],by rw[qAo];show _+1<=_;lia,?_
   .rw[aC,pG _ (by rw[nD,hc];rfl)];delta pY;rw[qBw];rfl
   .rw[he',show gR [V.int u,V.int v,V.int n]=(u,v) from rfl,hc,yes];rfl
 .rintro σ' H' ⟨s1,⟨o3,o4,rfl⟩,ks,hks,hd1,he⟩;rw[qAa,qKw (by rw[qAa];exact qAl _)] at he;have he:uA m (as.map (gN H))=true:=he;have at_:∀a∈as,∃u v n:Int,H a=some (.tup [.int u,.int v,.int n])/\lV H a=(u,v)/\0<=u/\u<v/\v<m:=fun a ha=>by
   obtain⟨xs,hxs,_⟩:=ht a ha;obtain⟨u,v,n,e,e1⟩:=zE (pX he xs (by rw[<- eJ hxs];exact List.mem_map.mpr ⟨a,ha,rfl⟩));subst e;exact⟨u,v,n,hxs,by delta lV;rw[eJ hxs];rfl,e1⟩
  have pk:=DH he;have nk:∀a∈as,∀b∈as,lV H a=lV H b->a=b:=fun a ha b hb e=>qDb fun ne=>by
   rcases pw_mem pk ha hb ne with z | z
   .exact z e
   .exact z e.symm
  refine⟨_,rfl,p,as,fun a=>FO m (lV H a),rfl,aV.of (s1 _ _ hp),fun a ha=>?_,h64,fun a ha b hb=>?_,?_,fun l bs hl hp_ hpw=>k he l bs _ (s1.free hl) hp_ ?_ (s1.trans (.aI hl)) aC⟩
  .obtain⟨u,v,n,hu,_⟩:=at_ a ha;exact⟨u,[v,n],s1 _ _ hu⟩
  .obtain⟨u,v,n,hu,ku,u0,u1,u2⟩:=at_ a ha;obtain⟨u',v',n',hu',ku',v0,v1,v2⟩:=at_ b hb;rw[fV (ns:=[u,v,n]) (s1 _ _ hu),fV (ns:=[u',v',n']) (s1 _ _ hu')];show _=decide (FO m (lV H a)<FO m (lV H b));rw[ku,ku'];refine QW u0 u1 u2 v0 v1 v2 fun e=>?_;have:=nk a ha b hb (by rw[ku,ku',e]);subst this;rw[hu] at hu';injection hu' with e1;injection e1 with e1;injection e1 with _ e1;injection e1 with _ e1;injection e1 with e1;injection e1
  .refine List.pairwise_map.mpr (pk.imp_of_mem fun {a b} ha hb ne=>?_);obtain⟨u,v,n,hu,ku,u0,u1,u2⟩:=at_ a ha;obtain⟨u',v',n',hu',ku',v0,v1,v2⟩:=at_ b hb;rw[ku,ku'] at ne;show FO m (lV H a)≠FO m (lV H b);rw[ku,ku'];intro e;have x1:=mt (uB u0 u1 u2 v0 v1 v2).mpr (by lia);have x2:=mt (uB v0 v1 v2 u0 u1 u2).mpr (by lia);refine ne (Prod.ext ?_ ?_)
   .show u=u';have x1:¬(u<u'\/u=u'/\v<v'):=x1;have x2:¬(u'<u\/u'=u/\v'<v):=x2;lia
   .show v=v';have x1:¬(u<u'\/u=u'/\v<v'):=x1;have x2:¬(u'<u\/u'=u/\v'<v):=x2;lia
  .refine(List.pairwise_map.mp hpw).imp_of_mem fun {a b} ha hb lt=>?_;obtain⟨u,v,n,hu,ku,u0,u1,u2⟩:=at_ a (hp_.mem_iff.mp ha);obtain⟨u',v',n',hu',ku',v0,v1,v2⟩:=at_ b (hp_.mem_iff.mp hb);rw[ku,ku'] at lt|-;exact(uB u0 u1 u2 v0 v1 v2).mp lt
def both(g i j:Nat):Bool:=decide (g/2^i%2=1)&&decide (g/2^j%2=1)
theorem FP:∀(g:_root_.Fin 64) (i j:_root_.Fin 6),decide (qBm (g.1:Int) (qCq (alone i.1) (alone j.1))=qCq (alone i.1) (alone j.1))=both g.1 i.1 j.1:=by decide +kernel
def Ke:Sp:=fun vs H Q _=>∃g i j:Nat,vs=[.int (g:Int),.int (i:Int),.int (j:Int)]/\g<64/\i<6/\j<6/\Q (.bl (both g i j)) H
theorem NV:aN ["group","one","other","both"] ["group","one","other"] (aH Qy):=#[1,2]
theorem NX(t:Tx K mg "has_both" Qy ["group","one","other"] f fd)(T:#[4]):#[5] 1 "has_both" ["group","one","other"] Ke f fd:=by
 refine t.jI NV (by rintro _ _ _ _⟨g,i,j,rfl,_⟩;rfl) fun _ _ _ _ H vs Q E hr h=>?_;obtain⟨g,i,j,rfl,hg,hi,hj,k⟩:=h;refine⟨_,(aD (bB (i:=3) NV.nd rfl cC (aL vA (aX bL (cB (v:=.ref AL) #[0] T.xS rfl) (pv 1) #[6]) (aX bL (cB (v:=.ref AL) #[0] T.xS rfl) (pv 2) #[6])))
  (aG (aS (dD bU (aL fG (pv 0) (pv 3)) (pv 3) (aT _))))),?_⟩
 have a1:=lU (i:=(i:Int)) (by lia) (by lia);have a2:=lU (i:=(j:Int)) (by lia) (by lia);exists _,rfl,AL,_,_,_,rfl,rfl,T.al _,a1,_,rfl,AL,_,_,_,rfl,rfl,T.al _,a2,_,_,rfl,rfl;exists _,rfl,_,rfl,_,_,rfl,rfl,_,rfl,rfl;have e:=FP ⟨g,hg⟩ ⟨i,hi⟩ ⟨j,hj⟩;have e':decide (V.int (qBm (g:Int) (qCq (alone i) (alone j)))=V.int (qCq (alone i) (alone j)))=both g i j:=by
  rw[<- e];exact decide_eq_decide.mpr ⟨V.int.inj,congrArg V.int⟩
 show Q (.bl (decide (V.int (qBm (g:Int) (qCq (alone i) (alone j)))=V.int (qCq (alone i) (alone j))))) H;rw[e'];exact k
def DI:Sp:=fun vs H Q _=>∃(l:Addr) (ns:List Int) (g:Nat),vs=[.ref l,.int (g:Int)]/\H l=some (.lst (ns.map V.int))/\ns.length<=6/\g<2^ns.length/\∀H',aJ H H'->Q (.int (nA ns g)) H'
theorem NY:aN ["numbers","group"] ["numbers","group"] (aH Ji):=#[1,2]
theorem Kf{f1:Addr}{fd1:qCi}(t:Tx K mg "sum_of_hands" Ji ["numbers","group"] f fd)(T:#[4])(D_hands_of:#[1,1] 4 "hands_of" ["group"] (DF K NG) f1 fd1):
  #[5] 5 "sum_of_hands" ["numbers","group"] DI f fd:=by
 refine t.jI NY (by rintro _ _ _ _⟨l,ns,g,rfl,_⟩;rfl) fun _ _ _ _ H vs Q E hr h=>?_;obtain⟨l,ns,g,rfl,hl,h6,hg,k⟩:=h;have hg64:g<64:=qAr hg (FF h6);refine⟨_,(aG (aS (aM (fB rfl) #[0] T.hX iE (aA (bP (NB:=["hand","numbers"]) (pick:=[none,some 0]) (bT #[7] (by exact(And.intro rfl trivial)) rfl #[2] #[2] #[0] #[0]) rfl
    (bM (fA bY D_hands_of hr #[1] #[0] (aA (pv 1) aB))) (fun _ _ _=>aK (i:=0) #[8,["hand","numbers"]] rfl cC)
    (fun _ _ _=>bX) (fun _ _ _=>(aX (vM K) (pv 1) (pv 0) #[6]))) aB)))),?_⟩
 refine⟨_,rfl,_,rfl,.int _,fun no=>?_,fun g' q H1 hv _ hq s1 h1=>?_⟩
 .exact absurd no (by rw[oQ (m:=6) hg64];decide)
 .have eg:g'=g:=by have:=V.int.inj hv;lia
  subst eg;exists q,rfl,⟨_,aV.of h1⟩;refine cV (xs:=(dH g').map V.int) (fun _ x=>match x with | .int i=>some (.int (ns.getD i.toNat 0)) | _=>none) (aV.of h1) ?_ (fun i x H2 kk kk0 s2 hx h1 h2=>?_) fun D H2 hD s2 hd=>?_
  .rw[qAa];exact qBb (aO (qAx (t8 g' 6) #[1]))
  .obtain⟨j,hj,rfl⟩:=List.mem_map.mp (qAq hx);obtain⟨j0,jl⟩:=zA hg 6 j hj;have hjn:j.toNat<ns.length:=by lia
   have hat:fM (ns.map V.int) j=some (.int (ns.getD j.toNat 0)):=by
    have z:=bS (xs:=ns.map V.int) (j:=j.toNat) (v:=.int (ns.getD j.toNat 0)) (by rw[qAf,qAj,qAc hjn];rfl);rw[qGo j0] at z;exact z
   exact⟨_,rfl,_,rfl,l,_,_,_,rfl,rfl,aV.of (s2 _ _ (s1 _ _ hl)),hat,h1 _ rfl _ (.refl _)⟩
  .have ed:((qAh ((dH g').map V.int).length).filterMap fun i=>(((dH g').map V.int)[i]?).bind fun x=>match x with | .int i=>some (V.int (ns.getD i.toNat 0)) | _=>none)=((dH g').map fun h=>ns.getD h.toNat 0).map V.int:=by
    rw[cN,qDg,qBo];show(dH g').filterMap (fun i=>some (V.int (ns.getD i.toNat 0)))=_;rw[qBz];rfl
   rw[ed] at hd;exists D,_,rfl,.inl (aV.of hd);rw[zB h6 hg];exact k H2 (s1.trans s2)
def uC(K:qAb)(NL:Addr):Sp:=fun vs H Q E=>∃(x C dx:Addr) (v:V),vs=[.ref x,v]/\H x=some (.ins C dx [])/\AO K C/\c5 K C "many"/\Pl K H v/\(mG 1 6 v=false->E (.ref NL) none H)/\(mG 1 6 v=true->Q .non (upd H x (.ins C dx [("many",v)])))
theorem QX:aN ["self","many"] ["self","many"] (aH LR):=#[1,2]
theorem NZ(t:Mx K "__init__" "Rule.__init__" LR ["self","many"] f fd)(T:#[4])(D_check_many:#[1,1] 3 "check_many" ["many"] (DE K NL) f1 fd1):
  #[1,0] 4 ["self","many"] (uC K NL) f:=by
 refine t.CQ QX (by rintro _ _ _ _⟨x,C,dx,v,rfl,_⟩;rfl) fun _ _ _ _ H vs Q E hr h=>?_;obtain⟨x,C,dx,v,rfl,hx,c,n,pl,k0,k⟩:=h;refine⟨_,(aD (bQ (fA bD.toPass D_check_many hr #[1] #[0] (aA (pv 1) aB)))
  (aG (gF (pv 0) (pv 1) rfl))),?_⟩
 exists _,rfl,v,rfl,pl;cases e:mG 1 6 v with
 | false=>rw[if_neg qAn];exact k0 e
 | true =>
  rw[if_pos rfl];exact⟨_,rfl,_,rfl,x,C,dx,[],rfl,hx,c,n,by decide,k e⟩
def FQ(K:qAb):Sp:=fun vs H Q _=>∃(a C dx:Addr) (fs:List (Str×V)) (v:V),vs=[.ref a]/\H a=some (.ins C dx fs)/\AO K C/\c5 K C "many"/\fs.lookup ("many":Str)=some v/\Q v H
theorem QY:aN ["self"] ["self"] (aH LS):=#[1,2]
theorem Oa(t:Mx K "hands" "Rule.hands" LS ["self"] f fd):#[1,0] 1 ["self"] (FQ K) f:=by
 refine t.tQ QY (by rintro _ _ _ _⟨a,C,dx,fs,v,rfl,_⟩;rfl) fun _ _ _ _ H vs Q E hr h=>?_;obtain⟨a,C,dx,fs,v,rfl,ha,c,n,hl,k⟩:=h;exists _,(aG (aS (cF (pv 0) rfl)));exact⟨_,rfl,a,C,dx,fs,v,rfl,ha,c,n,hl,k⟩
def Kg:Sp:=fun vs H Q _=>∃u v,vs=[u,v]/\Q (.int 0) H
theorem QZ:aN ["self","group"] ["self","group"] (aH LU):=#[1,2]
theorem Ob(t:Mx K "reckon" "Rule.reckon" LU ["self","group"] f fd):#[1,0] 1 ["self","group"] Kg f:=by
 refine t.tQ QZ (by rintro _ _ _ _⟨u,v,rfl,_⟩;rfl) fun _ _ _ _ H vs Q E hr h=>?_;obtain⟨u,v,rfl,k⟩:=h;exact⟨_,(aG (aS aE)),k⟩
def GR(P:qBl)(w:qCr)(K:qAb)(mg:Str->Option qAi)(base:Heap)(fE fH RU NG:Addr):Sp:=fun vs H Q E=>∃(a:Addr) (m:Nat) (e:Nat->Int) (v:V),vs=[.ref a,v]/\nB P w K mg base fE fH RU H a m e/\Pl K H v /\
 (mG 0 (2^m-1) v=false->∀H',aJ H H'->E (.ref NG) none H')/\∀(g:Nat),v = .int (g:Int)->g<2^m->∀H',aJ H H'->Q (.int (e g)) H'
theorem Oc:aN ["self","group"] ["self","group"] (aH Bu):=#[1,2]
theorem Kh(t:Mx K "earn" "Rule.earn" Bu ["self","group"] f fd)(T:#[4])(D_check_group:#[1,1] 3 "check_group" ["group","many"] (wG K NG) f1 fd1):
  #[1,0] 7 ["self","group"] (GR P w K mg base fE fH RU NG) f:=by
 refine t.CQ Oc (by rintro _ _ _ _⟨a,m,e,v,rfl,_⟩;rfl) fun _ _ _ _ H vs Q E hr h=>?_;obtain⟨a,m,e,v,rfl,ro,pl,k0,k⟩:=h;refine⟨_,(aD (bQ (fA bD.toPass D_check_group hr #[1] #[0] (aA (pv 1) (aA (cF (pv 0) rfl) aB))))
  (aG (aS (jP (k:=6) bD.toPass (pv 0) hr #[1] (aA (pv 1) aB))))),?_⟩
 obtain⟨C,dx,g,fs,h1,h2,h3,h4,h5,h6,ps,h7⟩:=ro;refine⟨_,rfl,_,rfl,a,C,dx,fs,_,rfl,h1,h2.oc.cl,h2.nm,h3,v,m,rfl,h5,pl,k0,fun yes H1 s1=>?_⟩;obtain⟨gr,rfl,hg⟩:=lQ yes;exists _,rfl,a,C,dx,fs,g,_,rfl,s1 _ _ h1,h6.2.2,h2.oc.cl,h2.mr,⟨ps,h7⟩;exact⟨_,rfl,gr,rfl,hg,s1,fun H3 s3=>k gr rfl hg H3 (s1.trans s3)⟩
def Ki(K:qAb)(NL OW:Addr):Sp:=fun vs H Q E=>∃(x dx p:Addr) (xs:List V),vs=[.ref x,.ref p]/\H x=some (.ins OW dx [])/\H p=some (.lst xs)/\(∀v∈xs,Pl K H v)/\xs.length<=1000 /\
 (okN xs=false->∀H',SameBut x H H'->E (.ref NL) none H') /\
 (okN xs=true->∀l H',H l=none->SameBut x H H'->H' x=some (.ins OW dx [("many",.int (xs.length:Int)),("numbers",.ref l)])->H' l=some (.lst xs)->Q .non H')
theorem Ra:aN ["self","numbers"] ["self","numbers"] (aH LW):=#[1,2]
theorem Od(t:Mx K "__init__" "Own.__init__" LW ["self","numbers"] f fd)(T:#[4])(D_RI:#[1,0] 4 ["self","many"] (uC K NL) iR)(D_check_numbers:#[1,1] 2 "check_numbers" ["things"] (wH K NL) f1 fd1):
  #[1,0] 5 ["self","numbers"] (Ki K NL OW) f:=by
 refine t.CQ Ra (by rintro _ _ _ _⟨x,dx,p,xs,rfl,_⟩;rfl) fun _ _ _ _ H vs Q E hr h=>?_;obtain⟨x,dx,p,xs,rfl,hx,hp,pl,hlen,k0,k⟩:=h;refine⟨_,(aD (bQ (rW bD.toPass #[0] T.DD T.Ms D_RI hr #[1] (aA (pv 0) (aA (aM aU #[0] T.cG bV (aA (pv 1) aB)) aB))))
  (aD (bQ (fA bD.toPass D_check_numbers hr #[1] #[0] (aA (pv 1) aB)))
  (aG (gF (pv 0) (bW dF #[0] T.fK fU (aA (pv 1) aB)) rfl)))),?_⟩
 refine⟨_,rfl,_,rfl,p,_,rfl,.inl (aV.of hp),x,OW,dx,_,rfl,hx,T.JN.oc.cl,T.JN.nm,.int _,fun no=>?_,fun yes=>?_⟩
 .refine k0 ?_ H ((aJ.refl H).but x);delta okN;rw[iI] at no;rw[no];rfl
 have ne:p≠x:=fP hp hx (by intro z;cases z);have hp1:upd H x (.ins OW dx [("many",V.int (xs.length:Int))]) p=some (.lst xs):=by rw[aQ ne];exact hp
 have sb:SameBut x H (upd H x (.ins OW dx [("many",V.int (xs.length:Int))])):=((aJ.refl H).but x).jD _;have pl1:∀v∈xs,Pl K (upd H x (.ins OW dx [("many",V.int (xs.length:Int))])) v:=fun v hv=>(pl v hv).lL hx;refine⟨_,rfl,p,xs,rfl,.inl hp1,pl1,hlen,fun no H1 s1=>?_,fun yes2 H1 s1=>?_⟩
 .refine k0 ?_ H1 (sb.then s1);delta okN;rw[no,qFf]
 refine⟨_,rfl,p,_,rfl,.inl (aV.of (s1 _ _ hp1)),fun l hl=>?_⟩;have u2:=aJ.aI (o:=.lst xs) hl;have hx2:=u2 _ _ (s1 _ _ (aC (H:=H) (a:=x) (o:=.ins OW dx [("many",V.int (xs.length:Int))])));refine⟨_,rfl,x,OW,dx,_,rfl,hx2,T.JN.oc.cl,T.QC,(by show 1<1000;decide),?_⟩;have nl:l≠x:=(bG (s1 _ _ (aC (H:=H) (a:=x) (o:=.ins OW dx [("many",V.int (xs.length:Int))]))) hl).symm;refine k ?_ l _ ?_ ((sb.then (s1.trans u2)).jD _) aC (by rw[aQ nl];exact aC)
 .delta okN;rw[iI] at yes;rw[yes,yes2];rfl
 .cases e:H l with
  | none=>rfl
  | some o =>
   have z:=s1 l o (by rw[aQ nl];exact e);rw[hl] at z;cases z
def Kj(OW:Addr):Sp:=fun vs H Q _=>∃(a dx l:Addr) (ns:List Int) (g:Nat),vs=[.ref a,.int (g:Int)]/\H a=some (.ins OW dx [("many",.int (ns.length:Int)),("numbers",.ref l)])/\H l=some (.lst (ns.map V.int))/\ns.length<=6/\g<2^ns.length/\∀H',aJ H H'->Q (.int (nA ns g)) H'
theorem Rb:aN ["self","group"] ["self","group"] (aH LX):=#[1,2]
theorem Oe(t:Mx K "reckon" "Own.reckon" LX ["self","group"] f fd)(T:#[4])(D_sum_of_hands:#[5] 5 "sum_of_hands" ["numbers","group"] DI f1 fd1):
  #[1,0] 6 ["self","group"] (Kj OW) f:=by
 refine t.tQ Rb (by rintro _ _ _ _⟨a,dx,l,ns,g,rfl,_⟩;rfl) fun _ _ _ _ H vs Q E hr h=>?_;obtain⟨a,dx,l,ns,g,rfl,ha,hl,h6,hg,k⟩:=h;refine⟨_,(aG (aS (bH D_sum_of_hands hr #[1] #[0] (aA (cF (pv 0) rfl) (aA (pv 1) aB))))),?_⟩;exact⟨_,rfl,a,OW,dx,_,_,rfl,ha,T.JN.oc.cl,T.QC,rfl,_,rfl,l,ns,g,rfl,hl,h6,hg,k⟩
theorem FR(D:#[1,0] 6 ["self","group"] (Kj OW) rO)(c:RC K fE fH RU OW rO){H:Hp}{a dx l:Addr}{ns:List Int}(ha:H a=some (.ins OW dx [("many",.int (ns.length:Int)),("numbers",.ref l)]))(hl:H l=some (.lst (ns.map V.int)))(h1:1<=ns.length)(h6:ns.length<=6):
  nB P w K mg base fE fH RU H a ns.length (nA ns) :=
 ⟨OW,dx,rO,_,ha,c,rfl,h1,h6,⟨rfl,rfl,rfl⟩,_,D.imp (by rintro vs H2 Q _ ⟨gr,e,hg,s,q⟩;exact ⟨a,dx,l,ns,gr,e,s _ _ ha,s _ _ hl,h6,hg,q⟩)⟩
def Kk(K:qAb)(NT PL:Addr):Sp:=fun vs H Q E=>∃(x dx p:Addr) (xs:List V),vs=[.ref x,.ref p]/\H x=some (.ins PL dx [])/\H p=some (.lst xs)/\(∀v∈xs,Pl K H v)/\xs.length<=1000 /\
 (kF xs=false->∀H',SameBut x H H'->E (.ref NT) none H') /\
 (kF xs=true->∀(m:Nat) l H',1<=m->m<=6->xs.length=2^m->H l=none->SameBut x H H'->H' x=some (.ins PL dx [("many",.int (m:Int)),("earnings",.ref l)])->H' l=some (.lst xs)->Q .non H')
theorem Rc:aN ["self","table"] ["self","table"] (aH LY):=#[1,2]
theorem Of(t:Mx K "__init__" "Plain.__init__" LY ["self","table"] f fd)(T:#[4])(D_RI:#[1,0] 4 ["self","many"] (uC K NL) iR)(D_hands_in:#[1,1] 3 "hands_in" ["table"] (DG K NT) f1 fd1):
  #[1,0] 5 ["self","table"] (Kk K NT PL) f:=by
 refine t.CQ Rc (by rintro _ _ _ _⟨x,dx,p,xs,rfl,_⟩;rfl) fun _ _ _ _ H vs Q E hr h=>?_;obtain⟨x,dx,p,xs,rfl,hx,hp,pl,hlen,k0,k⟩:=h;refine⟨_,(aD (bQ (rW bD.toPass #[0] T.DD T.Ms D_RI hr #[1] (aA (pv 0) (aA (fA bD.toPass D_hands_in hr #[1] #[0] (aA (pv 1) aB)) aB))))
  (aG (gF (pv 0) (bW dF #[0] T.fK fU (aA (pv 1) aB)) rfl))),?_⟩
 refine⟨_,rfl,_,rfl,p,xs,rfl,hp,pl,hlen,fun no H1 s1=>k0 no H1 (s1.but x),fun m h1 h6 hm yes H1 s1=>?_⟩;have i16:mG 1 6 (.int (m:Int))=true:=by rw[iI,decide_eq_true h1,decide_eq_true h6];rfl
 refine⟨x,PL,dx,_,rfl,s1 _ _ hx,T.JO.oc.cl,T.JO.nm,.int _,fun no=>?_,fun _=>?_⟩
 .rw[i16] at no;cases no
 have ne:p≠x:=fP hp hx (by intro z;cases z);have hp1:upd H1 x (.ins PL dx [("many",V.int (m:Int))]) p=some (.lst xs):=by rw[aQ ne];exact s1 _ _ hp
 refine⟨_,rfl,p,_,rfl,.inl (aV.of hp1),fun l hl=>?_⟩;have u2:=aJ.aI (o:=.lst xs) hl;have hx2:=u2 _ _ (aC (H:=H1) (a:=x) (o:=.ins PL dx [("many",V.int (m:Int))]));refine⟨_,rfl,x,PL,dx,_,rfl,hx2,T.JO.oc.cl,T.QD,(by show 1<1000;decide),?_⟩;have nl:l≠x:=(bG (aC (H:=H1) (a:=x) (o:=.ins PL dx [("many",V.int (m:Int))])) hl).symm;refine k yes m l _ h1 h6 hm ?_ ((((s1.but x).jD _).then u2).jD _) aC (by rw[aQ nl];exact aC);rw[aQ nl] at hl;exact s1.free hl
def Kl(PL:Addr):Sp:=fun vs H Q _=>∃(a dx l:Addr) (m:Nat) (ns:List Int) (g:Nat),vs=[.ref a,.int (g:Int)]/\H a=some (.ins PL dx [("many",.int (m:Int)),("earnings",.ref l)])/\H l=some (.lst (ns.map V.int))/\g<ns.length/\∀H',aJ H H'->Q (.int (ns.getD g 0)) H'
theorem Rf:aN ["self","group"] ["self","group"] (aH LZ):=#[1,2]
theorem Og(t:Mx K "reckon" "Plain.reckon" LZ ["self","group"] f fd)(T:#[4]):#[1,0] 1 ["self","group"] (Kl PL) f:=by
 refine t.tQ Rf (by rintro _ _ _ _⟨a,dx,l,m,ns,g,rfl,_⟩;rfl) fun _ _ _ _ H vs Q E hr h=>?_;obtain⟨a,dx,l,m,ns,g,rfl,ha,hl,hg,k⟩:=h;refine⟨_,(aG (aS (aX bF (cF (pv 0) rfl) (pv 1) #[6]))),?_⟩;have hat:fM (ns.map V.int) (g:Int)=some (.int (ns.getD g 0)):=bS (by rw[qAf,qAj,qAc hg];rfl);exact⟨_,rfl,a,PL,dx,_,_,rfl,ha,T.JO.oc.cl,T.QD,rfl,_,rfl,l,_,_,_,rfl,rfl,aV.of hl,hat,k H (.refl H)⟩
theorem BJ(D:#[1,0] 1 ["self","group"] (Kl PL) rP)(c:RC K fE fH RU PL rP){H:Hp}{a dx l:Addr}{m:Nat}{ns:List Int}(ha:H a=some (.ins PL dx [("many",.int (m:Int)),("earnings",.ref l)]))(hl:H l=some (.lst (ns.map V.int)))(hn:ns.length=2^m)(h1:1<=m)(h6:m<=6):
  nB P w K mg base fE fH RU H a m (fun g=>ns.getD g 0) :=
 ⟨PL,dx,rP,_,ha,c,rfl,h1,h6,⟨rfl,rfl,rfl⟩,_,(D.up #[1]).imp (by rintro vs H2 Q _ ⟨gr,e,hg,s,q⟩;exact ⟨a,dx,l,m,ns,gr,e,s _ _ ha,s _ _ hl,by lia,q⟩)⟩
theorem DJ(D:#[1,0] 1 ["self","group"] Kg rR)(c:RC K fE fH RU RU rR){H:Hp}{a dx:Addr}{m:Nat}(ha:H a=some (.ins RU dx [("many",.int (m:Int))]))(h1:1<=m)(h6:m<=6):
  nB P w K mg base fE fH RU H a m (fun _=>0) :=
 ⟨RU,dx,rR,_,ha,c,rfl,h1,h6,⟨rfl,rfl,rfl⟩,_,(D.up #[1]).imp (by rintro vs H2 Q _ ⟨gr,e,hg,s,q⟩;exact ⟨_,_,e,q H2 (.refl _)⟩)⟩
def DK(K:qAb)(NL PA:Addr):Sp:=fun vs H Q E=>∃(x dx p:Addr) (v:V) (as:List Addr),vs=[.ref x,v,.ref p]/\H x=some (.ins PA dx [])/\Pl K H v/\H p=some (.lst (as.map V.ref))/\BI K H as/\as.length<64 /\
 (mG 1 6 v=false->∀H',SameBut x H H'->E (.ref NL) none H')/\∀m:Int,v = .int m->mG 1 6 v=true ->
  (uA m (as.map (gN H))=false->∀H',SameBut x H H'->E (.ref NL) none H') /\
  (uA m (as.map (gN H))=true->∀(l:Addr) (bs:List Addr) (H':Hp),H l=none->bs.Perm as->bs.Pairwise (fun a b=>zG (lV H a) (lV H b))->SameBut x H H'->H' x=some (.ins PA dx [("many",v),("pairs",.ref l)])->H' l=some (.lst (bs.map V.ref))->Q .non H')
theorem Oh:aN ["self","many","pairs"] ["self","many","pairs"] (aH Bx):=#[1,2]
theorem Km(t:Mx K "__init__" "Pairs.__init__" Bx ["self","many","pairs"] f fd)(T:#[4])(D_RI:#[1,0] 4 ["self","many"] (uC K NL) iR)(D_sorted_pairs:#[1,1] 4 "sorted_pairs" ["many","pairs"] (Ae K NL) f1 fd1):
  #[1,0] 5 ["self","many","pairs"] (DK K NL PA) f:=by
 refine t.CQ Oh (by rintro _ _ _ _⟨x,dx,p,v,as,rfl,_⟩;rfl) fun _ _ _ _ H vs Q E hr h=>?_;obtain⟨x,dx,p,v,as,rfl,hx,pl,hp,ht,h64,k0,k⟩:=h;refine⟨_,(aD (bQ (rW bD.toPass #[0] T.DD T.Ms D_RI hr #[1] (aA (pv 0) (aA (pv 1) aB))))
  (aG (gF (pv 0) (fA bD.toPass D_sorted_pairs hr #[1] #[0] (aA (pv 1) (aA (pv 2) aB))) rfl))),?_⟩
 refine⟨_,rfl,_,rfl,x,PA,dx,v,rfl,hx,T.JP.oc.cl,T.JP.nm,pl,fun no=>k0 no H ((aJ.refl H).but x),fun yes=>?_⟩;obtain⟨m,rfl⟩:∃m,v = .int m:=by
  cases v <;> first | (exact⟨_,rfl⟩) | (exact absurd yes qAn)
 obtain⟨k1,k2⟩:=k m rfl yes;have at_:∀b o,(∀C dx fs,o≠HO.ins C dx fs)->H b=some o->upd H x (.ins PA dx [("many",V.int m)]) b=some o:=fun b o n e=>by
  rw[aQ]
  .exact e
  .rintro rfl;rw[hx] at e;exact n _ _ _ (Option.some.inj e).symm
 have hp1:=at_ _ _ (by intro _ _ _ z;cases z) hp;have ht1:BI K (upd H x (.ins PA dx [("many",V.int m)])) as:=fun a ha=>by
  obtain⟨xs,h1,h2,h3⟩:=ht a ha;exact⟨xs,at_ _ _ (by intro _ _ _ z;cases z) h1,fun v hv=>(h2 v hv).lL hx,h3⟩
 have eqm:as.map (gN (upd H x (.ins PA dx [("many",V.int m)])))=as.map (gN H):=ht.eq fun a xs e=>at_ _ _ (by intro _ _ _ z;cases z) e;have sb:SameBut x H (upd H x (.ins PA dx [("many",V.int m)])):=((aJ.refl H).but x).jD _;refine⟨_,rfl,_,rfl,m,p,as,rfl,hp1,ht1,h64,fun no H1 s1=>?_,fun ok l bs H1 hl hb hpw s1 h1=>?_⟩
 .rw[eqm] at no;exact k1 no H1 (sb.then s1)
 rw[eqm] at ok;have hx1:=s1 _ _ (aC (H:=H) (a:=x) (o:=.ins PA dx [("many",V.int m)]));have nl:l≠x:=(bG (aC (H:=H) (a:=x) (o:=.ins PA dx [("many",V.int m)])) hl).symm;refine⟨_,rfl,x,PA,dx,_,rfl,hx1,T.JP.oc.cl,T.QE,(by show 1<1000;decide),?_⟩;have kyU:∀a∈as,lV (upd H x (.ins PA dx [("many",V.int m)])) a=lV H a:=fun a ha=>by
  obtain⟨xs,h1,_⟩:=ht a ha;delta lV;rw[eJ h1,eJ (at_ _ _ (by intro _ _ _ z;cases z) h1)]
 refine k2 ok l bs _ ?_ hb (hpw.imp_of_mem fun {a b} ha hc z=>by rw[<- kyU a (hb.mem_iff.mp ha),<- kyU b (hb.mem_iff.mp hc)];exact z) ((sb.then s1).jD _) aC (by rw[aQ nl];exact h1);rw[aQ nl] at hl;exact hl
def pNum(t:List Int)(g:Nat):Option Int:=if both g (t.getD 0 0).toNat (t.getD 1 0).toNat=true then some (t.getD 2 0) else none
def uD(H:Hp)(bs:List Addr)(g:Nat):Int:=(bs.filterMap fun b=>pNum (gB H b) g).sum
def pZ(H:Hp)(b:Addr):Prop:=∃(i j:Nat) (n:Int),H b=some (.tup [.int (i:Int),.int (j:Int),.int n])/\i<6/\j<6
theorem pZ.same(h:pZ H b)(s:aJ H H'):pZ H' b:=let ⟨i,j,n,e,z⟩:=h;⟨i,j,n,s _ _ e,z⟩
theorem BK(h:∀b∈bs,pZ H b)(s:∀b∈bs,∀o,H b=some o->H' b=some o)(g:Nat):uD H' bs g=uD H bs g:=by
 delta uD;congr 1;refine dY fun b hb=>?_;obtain⟨i,j,n,e,_⟩:=h b hb;rw[fV (ns:=[(i:Int),j,n]) e,fV (ns:=[(i:Int),j,n]) (s b hb _ e)]
def DM(PA:Addr):Sp:=fun vs H Q _=>∃(a dx l:Addr) (m:Int) (bs:List Addr) (g:Nat),vs=[.ref a,.int (g:Int)]/\H a=some (.ins PA dx [("many",.int m),("pairs",.ref l)])/\H l=some (.lst (bs.map V.ref))/\bs.length<=1000/\(∀b∈bs,pZ H b)/\g<64/\∀H',aJ H H'->Q (.int (uD H bs g)) H'
theorem Oi:aN ["self","group"] ["self","group"] (aH By):=#[1,2]
theorem Kn(t:Mx K "reckon" "Pairs.reckon" By ["self","group"] f fd)(T:#[4])(D_has_both:#[5] 1 "has_both" ["group","one","other"] Ke f1 fd1):
  #[1,0] 2 ["self","group"] (DM PA) f:=by
 refine t.tQ Oi (by rintro _ _ _ _⟨a,dx,l,m,bs,g,rfl,_⟩;rfl) fun _ _ _ _ H vs Q E hr h=>?_;obtain⟨a,dx,l,m,bs,g,rfl,ha,hl,hlen,hb,hg,k⟩:=h;refine⟨_,(aG (aS (aM (fB rfl) #[0] T.hX iE (aA (bP (NB:=["one","other","number","group"]) (pick:=[none,none,none,some 1]) (bT #[7] (by exact(And.intro rfl trivial)) rfl #[2] #[2] #[0] #[0]) rfl
    (bM (cF (pv 0) rfl)) (fun _ _ _=>(show PG _ _ (qO K 3 (dX (bC 0) (dX (bC 1) (dX (bC 2) qN)))) from eL rfl (bA (aK (i:=0) #[8,["one","other","number","group"]] rfl cC) (bA (aK (i:=1) #[8,["one","other","number","group"]] rfl cC) (bA (aK (i:=2) #[8,["one","other","number","group"]] rfl cC) dC)))))
    (fun _ _ _=>gL (cZ (bH D_has_both hr #[1] #[0] (aA (pv 3) (aA (pv 0) (aA (pv 1) aB)))))) (fun _ _ _=>(pv 2))) aB)))),?_⟩
 exists _,rfl,a,PA,dx,_,_,rfl,ha,T.JP.oc.cl,T.QE,rfl,l,rfl,⟨_,aV.of hl⟩;refine gJ (xs:=bs.map V.ref) (fun σ'=>∃o0 o1 o2:Option V,σ'=[o0,o1,o2,some (.int (g:Int))]) (fun _ x=>match x with | .ref b=>(pNum (gB H b) g).map V.int | _=>none) ⟨_,_,_,rfl⟩ (aV.of hl) (by rw[qAa];exact qBb (aO hlen)) (fun i x σ1 H2 kk kk0 hσ s2 hx h1 h2=>?_) fun D H2 hD s2 hd=>?_
 .obtain⟨o0,o1,o2,rfl⟩:=hσ;obtain⟨b,hbm,rfl⟩:=List.mem_map.mp (qAq hx);obtain⟨u,v,n,e,hu,hv⟩:=hb b hbm;have et:pNum (gB H b) g=if both g u v=true then some n else none:=by rw[fV (ns:=[(u:Int),v,n]) e];rfl
  exists b,_,rfl,cQ.of (s2 _ _ e),rfl,_,_,rfl,_,_,rfl,_,_,rfl,rfl;exists _,rfl,_,rfl,_,rfl,g,u,v,rfl,hg,hu,hv,_,rfl;cases eb:both g u v with
  | true=>exact dG ⟨_,rfl,h1 _ _ ⟨_,_,_,rfl⟩ (by show(pNum (gB H b) g).map V.int=_;rw[et,eb];rfl) _ (.refl _)⟩
  | false=>exact bK (h2 _ ⟨_,_,_,rfl⟩ (by show(pNum (gB H b) g).map V.int=_;rw[et,eb];rfl) _ (.refl _))
 .have ed:H2 D=some (.lst ((bs.filterMap fun b=>pNum (gB H b) g).map V.int)):=by
   rw[hd,cN,qDg,qGs];rfl
  refine⟨D,_,rfl,.inl (aV.of ed),k H2 s2⟩
theorem BL(D:#[1,0] 2 ["self","group"] (DM PA) rA)(c:RC K fE fH RU PA rA){H:Hp}{a dx l:Addr}{m:Nat}{bs:List Addr}(ha:H a=some (.ins PA dx [("many",.int (m:Int)),("pairs",.ref l)]))(hl:H l=some (.lst (bs.map V.ref)))(hlen:bs.length<=1000)(hb:∀b∈bs,pZ H b)(h1:1<=m)(h6:m<=6):
  nB P w K mg base fE fH RU H a m (uD H bs) :=
 ⟨PA,dx,rA,_,ha,c,rfl,h1,h6,⟨rfl,rfl,rfl⟩,_,(D.up #[1]).imp (by rintro vs H2 Q _ ⟨gr,e,hg,s,q⟩;exact ⟨a,dx,l,_,bs,gr,e,s _ _ ha,s _ _ hl,hlen,fun b hb'=>(hb b hb').same s,qAr hg (FF h6),by
  rw[BK hb fun b _ o e=>s b o e];exact q⟩)⟩
def FT(vq vp:V)(xs:List V):Bool:=okN xs&&jO vq&&jO vp&&(match vq with | .int q=>decide (1<=q) | _=>false)
def Ko(K:qAb)(NL VO:Addr):Sp:=fun vs H Q E=>∃(x dx p:Addr) (vq vp:V) (xs:List V),vs=[.ref x,vq,vp,.ref p]/\H x=some (.ins VO dx [])/\Pl K H vq/\Pl K H vp/\H p=some (.lst xs)/\(∀v∈xs,Pl K H v)/\xs.length<=1000 /\
 (FT vq vp xs=false->∀H',SameBut x H H'->E (.ref NL) none H') /\
 (FT vq vp xs=true->∀l H',H l=none->SameBut x H H'->H' x=some (.ins VO dx [("many",.int (xs.length:Int)),("quota",vq),("prize",vp),("weights",.ref l)])->H' l=some (.lst xs)->Q .non H')
theorem Rg:aN ["self","quota","prize","weights"] ["self","quota","prize","weights"] (aH Ma):=#[1,2]
theorem Oj(t:Mx K "__init__" "Votes.__init__" Ma ["self","quota","prize","weights"] f fd)(T:#[4])(D_RI:#[1,0] 4 ["self","many"] (uC K NL) iR)(D_check_numbers:#[1,1] 2 "check_numbers" ["things"] (wH K NL) f1 fd1):
  #[1,0] 5 ["self","quota","prize","weights"] (Ko K NL VO) f:=by
 refine t.CQ Rg (by rintro _ _ _ _⟨x,dx,p,vq,vp,xs,rfl,_⟩;rfl) fun _ _ _ _ H vs Q E hr h=>?_;obtain⟨x,dx,p,vq,vp,xs,rfl,hx,plq,plp,hp,pl,hlen,k0,k⟩:=h;refine⟨_,(aD (bQ (rW bD.toPass #[0] T.DD T.Ms D_RI hr #[1] (aA (pv 0) (aA (aM aU #[0] T.cG bV (aA (pv 3) aB)) aB))))
  (aD (bQ (fA bD.toPass D_check_numbers hr #[1] #[0] (aA (bO (aA (pv 1) (aA (pv 2) aB))) aB)))
  (aD (bQ (fA bD.toPass D_check_numbers hr #[1] #[0] (aA (pv 3) aB)))
  (aD (bN (aP jM (pv 1) aE (aT _)) (aG (eM bD rfl #[0] T.BE T.BF (aA aY aB))) aZ)
  (aD (gF (pv 0) (pv 1) rfl)
  (aD (gF (pv 0) (pv 2) rfl)
  (aG (gF (pv 0) (bW dF #[0] T.fK fU (aA (pv 3) aB)) rfl)))))))),?_⟩
 refine⟨_,rfl,_,rfl,p,_,rfl,.inl (aV.of hp),x,VO,dx,_,rfl,hx,T.BD.oc.cl,T.BD.nm,.int _,fun no=>?_,fun yes=>?_⟩
 .refine k0 ?_ H ((aJ.refl H).but x);delta FT okN;rw[iI] at no;rw[no];rfl
 rw[iI] at yes;have ne:p≠x:=fP hp hx (by intro z;cases z);have hp1:upd H x (.ins VO dx [("many",V.int (xs.length:Int))]) p=some (.lst xs):=by rw[aQ ne];exact hp
 have hx1:upd H x (.ins VO dx [("many",V.int (xs.length:Int))]) x=some (.ins VO dx [("many",V.int (xs.length:Int))]):=aC;have sb:SameBut x H (upd H x (.ins VO dx [("many",V.int (xs.length:Int))])):=((aJ.refl H).but x).jD _;have pl1:∀v∈xs,Pl K (upd H x (.ins VO dx [("many",V.int (xs.length:Int))])) v:=fun v hv=>(pl v hv).lL hx;have plq1:Pl K (upd H x (.ins VO dx [("many",V.int (xs.length:Int))])) vq:=plq.lL hx;have plp1:Pl K (upd H x (.ins VO dx [("many",V.int (xs.length:Int))])) vp:=plp.lL hx;generalize upd H x (.ins VO dx [("many",V.int (xs.length:Int))])=H0 at hp1 hx1 sb pl1 plq1 plp1|-;refine⟨_,rfl,_,rfl,kY,fun c hc=>?_⟩;have u1:=aJ.aI (o:=.lst [vq,vp]) hc;refine⟨c,_,rfl,.inl aC,fun v hv=>?_,by show 2<=1000;decide,fun no H1 s1=>?_,fun yes2 H1 s1=>?_⟩
 .simp only[qEe,qCs,or_false] at hv;rcases hv with rfl | rfl
  .exact plq1.same u1
  .exact plp1.same u1
 .refine k0 ?_ H1 (sb.then (u1.trans s1));have z:(jO vq&&(jO vp&&true))=false:=no;delta FT;rw[qHi] at z;rw[Bool.and_assoc (okN xs),z,qFf,qEv]
 have z:(jO vq&&(jO vp&&true))=true:=yes2;rw[qHi,qAv] at z;have t1:=u1.trans s1;refine⟨_,rfl,p,xs,rfl,.inl (t1 _ _ hp1),fun v hv=>(pl1 v hv).same t1,hlen,fun no H2 s2=>?_,fun yes3 H2 s2=>?_⟩
 .refine k0 ?_ H2 (sb.then (t1.trans s2));delta FT okN;rw[no,qFf,qEv,qEv,qEv]
 have t2:=t1.trans s2;obtain⟨q,rfl⟩:∃q,vq = .int q:=by
  cases vq <;> first | (exact⟨_,rfl⟩) | (exact absurd z.1 qAn)
 exists _,rfl,_,_,rfl,rfl,_,rfl;cases hq:decide (q<1) with
 | true =>
  refine dG ⟨mH,k0 ?_ H2 (sb.then t2)⟩;have:¬1<=q:=by have:=of_decide_eq_true hq;lia
  delta FT;show(_&&decide (1<=q))=false;rw[decide_eq_false this,qFf]
 | false =>
  have hq1:1<=q:=by have:=of_decide_eq_false hq;lia
  refine bK ?_;have hx2:=t2 _ _ hx1;refine⟨_,rfl,_,rfl,x,VO,dx,_,rfl,hx2,T.BD.oc.cl,T.QF,(by show 1<1000;decide),?_⟩;refine⟨_,rfl,_,rfl,x,VO,dx,_,rfl,aC,T.BD.oc.cl,T.JQ,(by show 2<1000;decide),?_⟩;have ne2:p≠x:=ne;have hp3:upd (upd H2 x (.ins VO dx [("many",V.int (xs.length:Int)),("quota",.int q)])) x (.ins VO dx [("many",V.int (xs.length:Int)),("quota",.int q),("prize",vp)]) p=some (.lst xs):=by rw[aQ ne2,aQ ne2];exact t2 _ _ hp1
  refine⟨_,rfl,p,_,rfl,.inl (aV.of hp3),fun l hl=>?_⟩;have hx3:upd (upd H2 x (.ins VO dx [("many",V.int (xs.length:Int)),("quota",.int q)])) x (.ins VO dx [("many",V.int (xs.length:Int)),("quota",.int q),("prize",vp)]) x=some (.ins VO dx [("many",V.int (xs.length:Int)),("quota",.int q),("prize",vp)]):=aC;have u4:=aJ.aI (o:=.lst xs) hl;have nl:l≠x:=(bG hx3 hl).symm;refine⟨_,rfl,x,VO,dx,_,rfl,u4 _ _ hx3,T.BD.oc.cl,T.JR,(by show 3<1000;decide),?_⟩;refine k ?_ l _ ?_ (((((sb.then t2).jD _).jD _).then u4).jD _) aC (by rw[aQ nl];exact aC)
  .delta FT okN;show(_&&_&&decide (1<=q))=true;rw[yes,yes3,z.2,decide_eq_true hq1];rfl
  .rw[aQ nl,aQ nl] at hl;cases e:H l with
   | none=>rfl
   | some o =>
    have z:=(sb.then t2) l o nl e;rw[hl] at z;cases z
def rC(q pz:Int)(ws:List Int)(g:Nat):Int:=if q<=nA ws g then pz else 0
def Kp(VO:Addr):Sp:=fun vs H Q _=>∃(a dx l:Addr) (q pz:Int) (ws:List Int) (g:Nat),vs=[.ref a,.int (g:Int)]/\H a=some (.ins VO dx [("many",.int (ws.length:Int)),("quota",.int q),("prize",.int pz),("weights",.ref l)])/\H l=some (.lst (ws.map V.int))/\ws.length<=6/\g<2^ws.length/\∀H',aJ H H'->Q (.int (rC q pz ws g)) H'
theorem Rh:aN ["self","group"] ["self","group"] (aH Mb):=#[1,2]
theorem Ol(t:Mx K "reckon" "Votes.reckon" Mb ["self","group"] f fd)(T:#[4])(D_sum_of_hands:#[5] 5 "sum_of_hands" ["numbers","group"] DI f1 fd1):
  #[1,0] 6 ["self","group"] (Kp VO) f:=by
 refine t.tQ Rh (by rintro _ _ _ _⟨a,dx,l,q,pz,ws,g,rfl,_⟩;rfl) fun _ _ _ _ H vs Q E hr h=>?_;obtain⟨a,dx,l,q,pz,ws,g,rfl,ha,hl,h6,hg,k⟩:=h;refine⟨_,(aG (aS (uX (aP Ci (bH D_sum_of_hands hr #[1] #[0] (aA (cF (pv 0) rfl) (aA (pv 1) aB))) (cF (pv 0) rfl) (aT _)) (cF (pv 0) rfl) aE))),?_⟩;refine⟨_,rfl,a,VO,dx,_,_,rfl,ha,T.BD.oc.cl,T.JR,rfl,_,rfl,l,ws,g,rfl,hl,h6,hg,fun H1 s1=>?_⟩;exists _,rfl,a,VO,dx,_,_,rfl,s1 _ _ ha,T.BD.oc.cl,T.QF,rfl,_,_,rfl,rfl,_,rfl;have z:=k H1 s1;unfold rC at z;refine cU (fun h1=>?_) (fun h1=>?_)
 .rw[if_pos (of_decide_eq_true h1)] at z;exact⟨_,rfl,a,VO,dx,_,_,rfl,s1 _ _ ha,T.BD.oc.cl,T.JQ,rfl,z⟩
 .rw[if_neg (fun q=>h1 (decide_eq_true q))] at z;exact z
theorem BM(D:#[1,0] 6 ["self","group"] (Kp VO) rV)(c:RC K fE fH RU VO rV){H:Hp}{a dx l:Addr}{q pz:Int}{ws:List Int}(ha:H a=some (.ins VO dx [("many",.int (ws.length:Int)),("quota",.int q),("prize",.int pz),("weights",.ref l)]))(hl:H l=some (.lst (ws.map V.int)))(h1:1<=ws.length)(h6:ws.length<=6):
  nB P w K mg base fE fH RU H a ws.length (rC q pz ws) :=
 ⟨VO,dx,rV,_,ha,c,rfl,h1,h6,⟨rfl,rfl,rfl⟩,_,D.imp (by rintro vs H2 Q _ ⟨gr,e,hg,s,z⟩;exact ⟨a,dx,l,q,pz,ws,gr,e,s _ _ ha,s _ _ hl,h6,hg,z⟩)⟩
def fD(m:Nat)(H:Hp)(bs:List Addr):Prop:=(∀b∈bs,∃(u v:Nat) (n:Int),H b=some (.tup [.int (u:Int),.int (v:Int),.int n])/\u<v/\v<m)/\(bs.map fun b=>gR (gN H b)).Nodup/\bs.length<=15
theorem fD.same(h:fD m H bs)(s:∀b∈bs,∀o,H b=some o->H' b=some o):fD m H' bs:=by
 refine⟨fun b hb=>?_,?_,h.2.2⟩
 .obtain⟨u,v,n,e,z⟩:=h.1 b hb;exact⟨u,v,n,s b hb _ e,z⟩
 .have e:(bs.map fun b=>gR (gN H' b))=bs.map fun b=>gR (gN H b):=qDa fun b hb=>by
   obtain⟨u,v,n,e,_⟩:=h.1 b hb;rw[eJ e,eJ (s b hb _ e)]
  rw[e];exact h.2.1
theorem fD.Ah(h:fD m H bs)(p:cs.Perm bs):fD m H cs :=
 ⟨fun b hb=>h.1 b (p.mem_iff.mp hb),((p.map _).nodup_iff).mpr h.2.1,by rw[p.length_eq];exact h.2.2⟩
theorem fD.pair(h:fD m H bs)(h6:m<=6):∀b∈bs,pZ H b:=fun b hb=>by
 obtain⟨u,v,n,e,z⟩:=h.1 b hb;exact⟨u,v,n,e,by lia,by lia⟩
theorem sM:∀{xss:List (List V)}{seen:List (Int×Int)},(∀xs∈xss,BH m xs=true)->(xss.map gR).Nodup->(∀k∈xss.map gR,seen.contains k=false)->g7 m seen xss=true
 | [],_,_,_,_=>rfl
 | xs::r,seen,h,hn,hs=>by
  show(BH m xs && !(seen.contains (gR xs))&&g7 m (seen++[gR xs]) r)=true;rw[qBa,qJy] at hn;have ih:g7 m (seen++[gR xs]) r=true:=sM (fun x hx=>h x (qAs _ hx)) hn.2 fun k hk=>by
   have a:=hs k (by rw[qBa];exact qAs _ hk);have ne:k≠gR xs:=fun z=>hn.1 (z▸hk);rw[Bool.eq_false_iff] at a|-;intro z;rw[List.contains_iff_mem,qHv] at z;rcases z with z | z
   .exact a (List.contains_iff_mem.mpr z)
   .exact ne (by simpa using z)
  rw[h xs (by simp),hs (gR xs) (by simp),ih];rfl
theorem fD.ok(h:fD m H bs):uA (m:Int) (bs.map (gN H))=true:=by
 refine sM (fun xs hx=>?_) (by rw[qBo];exact h.2.1) (fun k _=>rfl);obtain⟨b,hb,rfl⟩:=List.mem_map.mp hx;obtain⟨u,v,n,e,z1,z2⟩:=h.1 b hb;rw[eJ e];show(decide ((0:Int)<=u)&&decide ((u:Int)<v)&&decide ((v:Int)<m))=true;rw[decide_eq_true (by lia),decide_eq_true (by lia),decide_eq_true (by lia)];rfl
theorem fD.jJ(h:fD m H bs):BI K H bs:=fun b hb=>by
 obtain⟨u,v,n,e,_⟩:=h.1 b hb;refine⟨_,e,fun x hx=>?_,by show 3<=1000;decide⟩;simp only[qEe,qCs,or_false] at hx;rcases hx with rfl | rfl | rfl
 .exact .int _
 .exact .int _
 .exact .int _
abbrev P3:=Nat×Nat×Int
abbrev E2:=Int×List (Nat×Nat)
def lo(g:Nat):Nat:=((dH g).headD 0).toNat
def aW(g i:Nat):Bool:=decide (g/2^i%2=1)
def Pw(m:Nat)(ps:List P3):Prop:=(∀p∈ps,p.1<p.2.1/\p.2.1<m)/\(ps.map fun p=>(p.1,p.2.1)).Nodup
theorem lo_facts:∀g:_root_.Fin 64,g.1≠0->lo g.1<6/\aW g.1 (lo g.1)=true/\(∀k:_root_.Fin 6,k.1<lo g.1->aW g.1 k.1=false)/\dH g.1=(lo g.1:Int)::(dH g.1).tail/\(dH g.1).length<=6:=by decide +kernel
theorem Ai:∀(g:_root_.Fin 64) (i k:_root_.Fin 6),aW g.1 i.1=true->2^i.1<=g.1/\aW (g.1-2^i.1) k.1=(aW g.1 k.1&&decide (k.1≠i.1)):=by decide +kernel
theorem zH(hg:g<64)(hi:i<6)(hk:k<6)(h:aW g i=true):aW (g-2^i) k=(aW g k&&decide (k≠i)):=(Ai ⟨g,hg⟩ ⟨i,hi⟩ ⟨k,hk⟩ h).2
theorem p0(hg:g<64)(hi:i<6)(h:aW g i=true):2^i<=g:=(Ai ⟨g,hg⟩ ⟨i,hi⟩ ⟨i,hi⟩ h).1
theorem Om(hg:g<64)(hi:i<6)(hj:j<6)(hk:k<6)(h:aW g i=true)(h2:aW g j=true)(ne:j≠i):aW (g-2^i-2^j) k=(aW g k&&decide (k≠i)&&decide (k≠j)):=by
 have z:aW (g-2^i) j=true:=by rw[zH hg hi hj h,h2,decide_eq_true ne];rfl
 rw[zH (qBi (qFm _ _) hg) hj hk z,zH hg hi hk h]
def eU(B:Nat->E2)(g:Nat)(f:E2)(p:P3):E2:=if p.1=lo g/\both g p.1 p.2.1=true then (if p.2.2+(B (g-2^p.1-2^p.2.1)).1>f.1 then (p.2.2+(B (g-2^p.1-2^p.2.1)).1,(p.1,p.2.1)::(B (g-2^p.1-2^p.2.1)).2) else f) else f
def nR(B:Nat->E2)(ps:List P3)(g:Nat):E2:=ps.foldl (eU B g) (B (g-2^lo g))
def gC(ps:List P3):Nat->List E2
 | 0=>[(0,[])]
 | n+1=>gC ps n++[nR (fun i=>(gC ps n).getD i (0,[])) ps (n+1)]
def bI(ps:List P3)(g:Nat):E2:=(gC ps g).getD g (0,[])
theorem gT(ps:List P3):∀n,(gC ps n).length=n+1
 | 0=>rfl
 | n+1=>by rw[gC,qAo,gT ps n];rfl
theorem wI(ps:List P3)(n:Nat):(gC ps n)[n]?=some (bI ps n):=by
 have h:n<(gC ps n).length:=by rw[gT];lia
 delta bI;rw[qAj,qAc h];rfl
theorem nE(ps:List P3):∀{i n:Nat},i<=n->(gC ps n)[i]?=some (bI ps i)
 | i,0,h=>by
  have:i=0:=by lia
  subst this;rfl
 | i,n+1,h=>by
  rcases qBj n i with z | z
  .have:i=n+1:=by lia
   subst this;exact wI ps _
  .rw[gC,qBu (by rw[gT];lia)];exact nE ps z
theorem wJ(h:∀i,i<=n->B i=B' i):nR B ps (n+1)=nR B' ps (n+1):=by
 have p1:∀k,1<=2^k:=fun k=>qFt;have e:eU B (n+1)=eU B' (n+1):=by
  funext f p
  delta eU;rw[h (n+1-2^p.1-2^p.2.1) (by have:=p1 p.1;generalize 2^p.1=x at *;generalize 2^p.2.1=y at *;lia)]
 delta nR;rw[e,h (n+1-2^lo (n+1)) (by have:=p1 (lo (n+1));generalize 2^lo (n+1)=x at *;lia)]
theorem p3(ps:List P3)(n:Nat):bI ps (n+1)=nR (fun i=>(gC ps n).getD i (0,[])) ps (n+1):=by
 have z:=wI ps (n+1);rw[gC,qCd (by rw[gT];exact qAl _),gT,qOh] at z;exact(Option.some.inj z).symm
theorem nF(ps:List P3){g:Nat}(h:g≠0):bI ps g=nR (bI ps) ps g:=by
 obtain⟨n,rfl⟩:∃n,g=n+1:=⟨g-1,by lia⟩;rw[p3];refine wJ fun i hi=>?_;rw[qAj,nE ps hi];rfl
theorem sN{α β:Type}{f:β->α->β}{Q:β->Prop}:∀{xs:List α}{b:β},Q b->(∀b x,x∈xs->Q b->Q (f b x))->Q (xs.foldl f b)
 | [],_,h,_=>h
 | x::xs,b,h,st=>sN (xs:=xs) (st b x (by simp) h) fun b y hy=>st b y (qAs _ hy)
inductive Good (ps:List P3):Nat->Nat->Int->List (Nat×Nat)->Prop
 | nil (b g:Nat):Good ps b g 0 []
 | cons {b g i j:Nat}{n s:Int}{r:List (Nat×Nat)}:b<=i->i<j->j<6->aW g i=true->aW g j=true->(i,j,n)∈ps->Good ps (i+1) (g-2^i-2^j) s r->Good ps b g (n+s) ((i,j)::r)
theorem Good.raise(h:Good ps b g0 s r):∀(g l:Nat),g<64->l<6->aW g l=true->g0=g-2^l->Good ps b g s r:=by
 induction h with
 | nil b g0=>exact fun g l _ _ _ _=>.nil b g
 | @cons b g0 i j n s r h1 h2 h3 h4 h5 h6 _ ih =>
  intro g l hg hl hb e;subst e;rw[zH hg hl (by lia) hb,qAv,decide_eq_true_iff] at h4;rw[zH hg hl (by lia) hb,qAv,decide_eq_true_iff] at h5;refine .cons h1 h2 h3 h4.1 h5.1 h6 (ih _ l (qBi (qAx (qFm _ _) (qFm _ _)) hg) hl ?_ ?_)
  .have n1:l≠i:=fun z=>h4.2 z.symm;have n2:l≠j:=fun z=>h5.2 z.symm;rw[Om hg (by lia) h3 hl h4.1 h5.1 (by lia),hb,decide_eq_true n1,decide_eq_true n2];rfl
  .generalize 2^i=x;generalize 2^j=y;generalize 2^l=z;lia
theorem Good.lift(h:Good ps b g s r)(z:∀k,k<b'->k<6->aW g k=false):Good ps b' g s r:=by
 cases h with
 | nil=>exact .nil _ _
 | @cons _ _ i j n s r h1 h2 h3 h4 h5 h6 h7 =>
  refine .cons (qMv fun q=>?_) h2 h3 h4 h5 h6 h7;rw[z i q (by lia)] at h4;exact qAn h4
theorem sO{ps:List P3}(hp:∀p∈ps,p.1<p.2.1/\p.2.1<6):∀g,g<64->Good ps 0 g (bI ps g).1 (bI ps g).2:=by
 intro g;induction g using qMy with
 | ind g ih =>
  intro hg;rcases qDt g with rfl | pos
  .exact .nil _ _
  have ne:g≠0:=by lia
  obtain⟨l6,lb,lmin,_⟩:=lo_facts ⟨g,hg⟩ ne;have l6:lo g<6:=l6;have lb:aW g (lo g)=true:=lb;have p1:∀k,1<=2^k:=fun k=>qFt;rw[nF ps ne];delta nR;refine sN (Q:=fun f:E2=>Good ps 0 g f.1 f.2) ?_ fun f p hm hf=>?_
  .have q1:=p1 (lo g);exact(ih (g-2^lo g) (by generalize 2^lo g=x at *;lia) (by generalize 2^lo g=x at *;lia)).raise g (lo g) hg l6 lb rfl
  .delta eU;split
   .rename_i c;split
    .obtain⟨i,j,n⟩:=p;obtain⟨c1,c2⟩:=c;have c1:i=lo g:=c1;obtain⟨h1,h2⟩:=hp _ hm;have h1:i<j:=h1;have h2:j<6:=h2;have c2:(aW g i&&aW g j)=true:=c2;rw[qAv] at c2;have q1:=p1 i;refine .cons (qBf _) h1 h2 c2.1 c2.2 hm ((ih (g-2^i-2^j) ?_ ?_).lift fun k hk k6=>?_)
     .show g-2^i-2^j<g;generalize 2^i=x at *;generalize 2^j=y at *;lia
     .show g-2^i-2^j<64;generalize 2^i=x at *;generalize 2^j=y at *;lia
     .rw[Om hg (by lia) h2 k6 c2.1 c2.2 (by lia)];rcases qBj k (lo g) with z | z
      .have y:aW g k=false:=lmin ⟨k,k6⟩ z;rw[y];rfl
      .have:k=i:=by lia
       rw[decide_eq_false (fun q=>q this),qFf];rfl
    .exact hf
   .exact hf
def Ca{α:Type}(f:α->Option Int)(d:Int)(xs:List α):Int:=xs.foldl (fun a x=>match f x with | some v=>if v>a then v else a | none=>a) d
theorem DN{α:Type}{f:α->Option Int}:∀{xs:List α}{d:Int},d<=Ca f d xs
 | [],d=>qIo d
 | x::xs,d=>by
  show d<=Ca f (match f x with | some v=>if v>d then v else d | none=>d) xs;refine qOm ?_ (DN (xs:=xs));cases f x with
  | none=>exact qIo d
  | some v =>
   show d<=if v>d then v else d;split <;> lia
theorem DO{α:Type}{f:α->Option Int}{v:Int}{y:α}(h:f y=some v):∀{xs:List α}{d:Int},y∈xs->v<=Ca f d xs
 | x::xs,d,hy=>by
  show v<=Ca f (match f x with | some v=>if v>d then v else d | none=>d) xs;rcases List.mem_cons.mp hy with rfl | hy
  .rw[h];refine qOm ?_ (DN (xs:=xs));show v<=if v>d then v else d;split <;> lia
  .exact DO h hy
theorem GS{α:Type}{f:α->Option Int}:∀{xs:List α}{d:Int},Ca f d xs=d\/∃x∈xs,f x=some (Ca f d xs)
 | [],d=>.inl rfl
 | x::xs,d=>by
  have e:Ca f d (x::xs)=Ca f (match f x with | some v=>if v>d then v else d | none=>d) xs:=rfl;rw[e];rcases GS (f:=f) (xs:=xs) (d:=match f x with | some v=>if v>d then v else d | none=>d) with z | ⟨y,hy,z⟩
  .cases h:f x with
   | none =>
    rw[h] at z;exact .inl z
   | some v =>
    rw[h] at z;by_cases c:v>d
    .refine .inr ⟨x,by simp,?_⟩;rw[h];simp only[if_pos c] at z|-;rw[z]
    .simp only[if_neg c] at z|-;exact .inl z
  .exact .inr ⟨y,qAs _ hy,z⟩
def lW(B:Nat->E2)(g:Nat)(p:P3):Option Int:=if p.1=lo g/\both g p.1 p.2.1=true then some (p.2.2+(B (g-2^p.1-2^p.2.1)).1) else none
theorem fold_fst(B:Nat->E2)(g:Nat):∀(ps:List P3) (f:E2),(ps.foldl (eU B g) f).1=Ca (lW B g) f.1 ps
 | [],f=>rfl
 | p::ps,f=>by
  have ih:=fold_fst B g ps (eU B g f p);have e:(eU B g f p).1=(match lW B g p with | some v=>if v>f.1 then v else f.1 | none=>f.1):=by
   delta eU lW;split
   .show(if _ then _ else _:E2).1=if _ then _ else _;split <;> rfl
   .rfl
  rw[e] at ih;exact ih
def lX(qs:List P3)(i j:Nat):Option Int:=(qs.find? fun p=>decide (p.1=i/\p.2.1=j)).map (·.2.2)
theorem DP(h:lX qs i j=some n):(i,j,n)∈qs:=by
 delta lX at h;cases e:qs.find? fun p=>decide (p.1=i/\p.2.1=j) with
 | none=>rw[e] at h;cases h
 | some p =>
  rw[e] at h;obtain⟨a,b,c⟩:=p;have h:some c=some n:=h;have z:=of_decide_eq_true (List.find?_some (p:=fun p:P3=>decide (p.1=i/\p.2.1=j)) e);have z1:a=i:=z.1;have z2:b=j:=z.2;rw[<- z1,<- z2,<- Option.some.inj h];exact List.mem_of_find?_eq_some e
theorem lY(hn:(qs.map fun p=>(p.1,p.2.1)).Nodup)(h:(i,j,n)∈qs):lX qs i j=some n:=by
 induction qs with
 | nil=>cases h
 | cons p r ih =>
  rw[qBa,qJy] at hn;delta lX;rcases List.mem_cons.mp h with e | h'
  .subst e;rw[qKu (by simp)];rfl
  .have ne:¬(decide (p.1=i/\p.2.1=j)=true):=by
    rw[decide_eq_true_iff];rintro⟨rfl,rfl⟩;exact hn.1 (List.mem_map.mpr ⟨_,h',rfl⟩)
   rw[qKv (p:=fun p:P3=>decide (p.1=i/\p.2.1=j)) ne];exact ih hn.2 h'
inductive A2 {α:Type} (R:Addr->α->Prop):List Addr->List α->Prop
 | nil:A2 R [] []
 | cons {a:Addr}{x:α}{as:List Addr}{xs:List α}:R a x->A2 R as xs->A2 R (a::as) (x::xs)
theorem A2.len(h:A2 R as xs):as.length=xs.length:=by
 induction h with
 | nil=>rfl
 | cons _ _ ih=>rw[qAw,qAw,ih]
theorem A2.imp(h:A2 R as xs)(f:∀a x,R a x->S a x):A2 S as xs:=by
 induction h with
 | nil=>exact .nil
 | cons r _ ih=>exact .cons (f _ _ r) ih
theorem A2.at(h:A2 R as xs):∀{i:Nat}{a:Addr},as[i]?=some a->∃x,xs[i]?=some x/\R a x:=by
 induction h with
 | nil=>intro i a e;simp at e
 | cons r _ ih =>
  intro i b e;cases i with
  | zero=>simp only[qHh,Option.some.injEq] at e;subst e;exact⟨_,rfl,r⟩
  | succ i=>rw[qEt] at e;exact ih e
theorem A2.get{α:Type}{R:Addr->α->Prop}{as:List Addr}{xs:List α}(h:A2 R as xs):∀{i:Nat}{x:α},xs[i]?=some x->∃a,as[i]?=some a/\R a x:=by
 induction h with
 | nil=>intro i a e;simp at e
 | cons r _ ih =>
  intro i b e;cases i with
  | zero=>simp only[qHh,Option.some.injEq] at e;subst e;exact⟨_,rfl,r⟩
  | succ i=>rw[qEt] at e;exact ih e
theorem A2.snoc(h:A2 R as xs)(r:R a x):A2 R (as++[a]) (xs++[x]):=by
 induction h with
 | nil=>exact .cons r .nil
 | cons r' _ ih=>exact .cons r' ih
def dW(H:Hp)(b:Addr)(p:P3):Prop:=H b=some (.tup [.int (p.1:Int),.int (p.2.1:Int),.int p.2.2])
def uR(H:Hp)(b:Addr)(d:Nat×Nat):Prop:=H b=some (.tup [.int (d.1:Int),.int (d.2:Int)])
def Aj(H:Hp)(t:Addr)(e:E2):Prop:=∃(q:Addr) (rs:List Addr),H t=some (.tup [.int e.1,.ref q])/\H q=some (.tup (rs.map V.ref))/\A2 (uR H) rs e.2
theorem dW.keep(h:dW H b p)(s:eO H H'):dW H' b p:=s _ _ h
theorem uR.keep(h:uR H b p)(s:eO H H'):uR H' b p:=s _ _ h
theorem Aj.keep(h:Aj H b e)(s:eO H H'):Aj H' b e :=
 let ⟨q,rs,h1,h2,h3⟩:=h;⟨q,rs,s _ _ h1,s _ _ h2,h3.imp fun _ _ h=>h.keep s⟩
theorem fD.list:∀{bs:List Addr},(∀b∈bs,∃(u v:Nat) (n:Int),H b=some (.tup [.int (u:Int),.int (v:Int),.int n])/\u<v/\v<m)->∃ps,A2 (dW H) bs ps/\(∀p∈ps,p.1<p.2.1/\p.2.1<m)/\(bs.map fun b=>gR (gN H b))=ps.map fun p=>((p.1:Int),(p.2.1:Int))
 | [],_=>⟨[],.nil,fun _ h=>(qCs h).elim,rfl⟩
 | b::bs,h=>by
  obtain⟨ps,h1,h2,h3⟩:=fD.list (bs:=bs) fun c hc=>h c (qAs _ hc);obtain⟨u,v,n,e,z⟩:=h b (by simp);refine⟨(u,v,n)::ps,.cons e h1,fun p hp=>?_,?_⟩
  .rcases List.mem_cons.mp hp with rfl | hp
   .exact z
   .exact h2 p hp
  .rw[qBa,qBa,h3,eJ e];rfl
theorem fD.pw(h:fD m H bs):∃ps,A2 (dW H) bs ps/\Pw m ps:=by
 obtain⟨ps,h1,h2,h3⟩:=fD.list h.1;exists ps,h1,h2;have nd:=h.2.1;rw[h3] at nd;have e:(ps.map fun p=>((p.1:Int),(p.2.1:Int)))=(ps.map fun p=>(p.1,p.2.1)).map fun q=>((q.1:Int),(q.2:Int)):=by rw[qBo];rfl
 rw[e] at nd;refine List.Pairwise.of_map _ (fun a b ne=>?_) nd;rintro rfl;exact ne rfl
theorem uE{as:List Addr}{i:Nat}{a:Addr}(h:as[i]?=some a):fM (as.map V.ref) (i:Int)=some (.ref a):=bS (by rw[qAf,h];rfl)
theorem at_of{as:List Addr}{i:Nat}{x:V}(h:(as.map V.ref)[i]?=some x):∃a,as[i]?=some a/\x = .ref a:=by
 rw[qAf] at h;cases e:as[i]? with
 | none=>rw[e] at h;cases h
 | some y=>rw[e] at h;exact⟨y,rfl,(Option.some.inj h).symm⟩
theorem p4{H:Hp}{ts:List Addr}{ps:List P3}{n i:Nat}(h:A2 (Aj H) ts (gC ps n))(hi:i<=n):∃t,ts[i]?=some t/\Aj H t (bI ps i):=h.get (nE ps hi)
theorem Good.len(h:Good ps b g s r)(hb:b<=6):r.length+b<=6:=by
 induction h with
 | nil b g=>simpa using hb
 | @cons b g i j n s r h1 h2 h3 _ _ _ _ ih =>
  have:=ih (by lia);rw[qAw];lia
theorem BN:∀i:_root_.Fin 6,alone i.1=((2^i.1:Nat):Int):=by decide
theorem gU{i:Nat}(h:i<6):fM (jT.map V.int) (i:Int)=some (.int ((2^i:Nat):Int)):=by
 have z:=lU (i:=(i:Int)) (by lia) (by lia);rw[qBv,BN ⟨i,h⟩] at z;exact z
theorem BO{α β:Type}{f:β->α->β}{b:β}{xs:List α}{i:Nat}{x:α}(h:xs[i]?=some x):(xs.take (i+1)).foldl f b=f ((xs.take i).foldl f b) x:=by
 rw[qGb,h,List.foldl_append];rfl
def Oo:Sp:=fun vs H Q _=>∃(lb lp:Addr) (ts bs:List Addr) (ps:List P3) (n:Nat),vs=[.ref lb,.ref lp,.int ((n+1:Nat):Int)]/\H lb=some (.lst (ts.map V.ref))/\A2 (Aj H) ts (gC ps n)/\H lp=some (.lst (bs.map V.ref))/\A2 (dW H) bs ps/\(∀p∈ps,p.1<p.2.1/\p.2.1<6)/\n+1<64 /\
 ∀t H',aJ H H'->Aj H' t (bI ps (n+1))->Q (.ref t) H'
theorem wK:aN ["best","pairs","group","least","found","one","other","number","rest"] ["best","pairs","group"] (aH Qz):=#[1,2]
theorem Oq{f1 f2:Addr}{fd1 fd2:qCi}(t:Tx K mg "best_of_group" Qz ["best","pairs","group"] f fd)(T:#[4])(D_hands_of:#[1,1] 4 "hands_of" ["group"] (DF K NG) f1 fd1)(D_has_both:#[5] 1 "has_both" ["group","one","other"] Ke f2 fd2):
  #[5] 5 "best_of_group" ["best","pairs","group"] Oo f fd:=by
 refine t.jI wK (by rintro _ _ _ _⟨lb,lp,ts,bs,ps,n,rfl,_⟩;rfl) fun _ _ _ _ H vs Q E hr h=>?_;obtain⟨lb,lp,ts,bs,ps,n,rfl,hlb,hts,hlp,hbs,hps,hn,k⟩:=h;refine⟨_,(aD (bB (i:=3) wK.nd rfl cC (aX bF (fA bY D_hands_of hr #[1] #[0] (aA (pv 2) aB)) aE #[6]))
  (aD (bB (i:=4) wK.nd rfl cC (aX bF (pv 0) (aL eW (pv 2) (aX bL (cB (v:=.ref AL) #[0] T.xS rfl) (pv 3) #[6])) #[6]))
  (aD (dJ #[9] rfl (bM (pv 1)) (eL rfl (bA (aK (i:=5) wK.nd rfl cC) (bA (aK (i:=6) wK.nd rfl cC) (bA (aK (i:=7) wK.nd rfl cC) dC))))
   (aG (bN (PW.pt (pw_and (aP bU (pv 5) (pv 3) (aT _)) (pw_and1 (cZ (bH D_has_both hr #[1] #[0] (aA (pv 2) (aA (pv 5) (aA (pv 6) aB)))))))) (aD (bB (i:=8) wK.nd rfl cC (aX bF (pv 0) (aL eW (aL eW (pv 2) (aX bL (cB (v:=.ref AL) #[0] T.xS rfl) (pv 5) #[6])) (aX bL (cB (v:=.ref AL) #[0] T.xS rfl) (pv 6) #[6])) #[6]))
    (aG (bN (aP vC (aL cR (pv 7) (aX bL (pv 8) aE #[6])) (aX bL (pv 4) aE #[6]) (aT _)) (aG (bB (i:=4) wK.nd rfl cC (cJ (aA (aL cR (pv 7) (aX bL (pv 8) aE #[6])) (aA (aL EW (cJ (aA (cJ (aA (pv 5) (aA (pv 6) aB))) aB)) (aX bL (pv 8) aE #[6])) aB))))) aZ))) aZ)))
  (aG (aS (pv 4)))))),?_⟩
 have p1:∀k,1<=2^k:=fun k=>qFt;have ne:n+1≠0:=by lia
 obtain⟨l6,lb1,lmin,hh,_⟩:=lo_facts ⟨n+1,hn⟩ ne;have l6:lo (n+1)<6:=l6;have lb1:aW (n+1) (lo (n+1))=true:=lb1;have hh:dH (n+1)=(lo (n+1):Int)::(dH (n+1)).tail:=hh;have hle:=p0 hn l6 lb1;refine⟨_,rfl,_,rfl,.int _,fun no=>?_,fun g l H1 eg hg hl s1 h1=>?_⟩
 .have z:=oQ (g:=n+1) (m:=6) hn;rw[z] at no;cases no
 have eg:g=n+1:=by have:=V.int.inj eg;lia
 subst eg;rw[hh] at h1;obtain⟨t0,ht0,e0⟩:=p4 hts (i:=n+1-2^lo (n+1)) (by have:=p1 (lo (n+1));generalize 2^lo (n+1)=x at *;lia);have hat:fM (ts.map V.ref) (((n+1:Nat):Int)-((2^lo (n+1):Nat):Int))=some (.ref t0):=by
  rw[<- qGk hle];exact uE ht0
 exists l,_,_,_,rfl,rfl,aV.of h1,bS (xs:=((lo (n+1):Int)::(dH (n+1)).tail).map V.int) (j:=0) (v:=V.int (lo (n+1):Int)) rfl;exists _,rfl,_,rfl,_,rfl,AL,_,_,_,rfl,rfl,T.al _,gU l6,_,_,rfl,rfl,lb,_,_,_,rfl,rfl,aV.of (s1 _ _ hlb),hat;exists _,rfl,lp,rfl,⟨_,aV.of (s1 _ _ hlp)⟩;refine fR (xs:=bs.map V.ref) (fun i σ' H'=>aJ H H'/\∃(tf:Addr) (o5 o6 o7 o8:Option V),Aj H' tf ((ps.take i).foldl (eU (bI ps) (n+1)) (bI ps (n+1-2^lo (n+1))))/\σ'=[some (.ref lb),some (.ref lp),some (.int ((n+1:Nat):Int)),some (.int (lo (n+1):Int)),some (.ref tf),o5,o6,o7,o8]) ?_ ?_ ?_ ?_
 .exact⟨s1,t0,none,none,none,none,e0.keep s1.t,rfl⟩
 .rintro i σ' H' _ ⟨s2,_⟩;exact aV.of (s2 _ _ hlp)
 .rintro i x σ' H2 hx ⟨s2,tf,o5,o6,o7,o8,ef,rfl⟩;obtain⟨b,hb,rfl⟩:=at_of hx;obtain⟨⟨u,v,c⟩,hp,ep⟩:=hbs.at hb;obtain⟨huv,hv⟩:=hps _ (qAq hp);have huv:u<v:=huv;have hv:v<6:=hv;have tk:=BO (f:=eU (bI ps) (n+1)) (b:=bI ps (n+1-2^lo (n+1))) hp;exists b,_,rfl,cQ.of (s2 _ _ ep),rfl,_,_,rfl,_,_,rfl,_,_,rfl,rfl;have kM:eU (bI ps) (n+1) ((ps.take i).foldl (eU (bI ps) (n+1)) (bI ps (n+1-2^lo (n+1)))) (u,v,c)=(ps.take i).foldl (eU (bI ps) (n+1)) (bI ps (n+1-2^lo (n+1)))->Aj H2 tf ((ps.take (i+1)).foldl (eU (bI ps) (n+1)) (bI ps (n+1-2^lo (n+1)))):=fun z=>by
   rw[tk,z];exact ef
  generalize hF:(ps.take i).foldl (eU (bI ps) (n+1)) (bI ps (n+1-2^lo (n+1)))=F at *;exists _,rfl,_,rfl,rfl,_,rfl;refine cU (fun h3=>?_) (fun h3=>?_)
  .have c1:u=lo (n+1):=by have:=V.int.inj (of_decide_eq_true h3);lia
   exists _,rfl,_,rfl,_,rfl,n+1,u,v,rfl,hn,by lia,hv,_,rfl;refine cU (fun h4=>?_) (fun h4=>?_)
   .have h4:both (n+1) u v=true:=h4;have h4':(aW (n+1) u&&aW (n+1) v)=true:=h4;rw[qAv] at h4';have w1:2^u<=n+1:=p0 hn (by lia) h4'.1;have w2:2^v<=n+1-2^u:=p0 (qBi (qFm _ _) hn) hv (by rw[zH hn (by lia) hv h4'.1,h4'.2,decide_eq_true (show v≠u by lia)];rfl);obtain⟨tr,htr,er⟩:=p4 hts (i:=n+1-2^u-2^v) (by have:=p1 u;generalize 2^u=x at *;generalize 2^v=y at *;lia);have hat2:fM (ts.map V.ref) (((n+1:Nat):Int)-((2^u:Nat):Int)-((2^v:Nat):Int))=some (.ref tr):=by
     rw[<- qGk w1,<- qGk w2];exact uE htr
    obtain⟨rq,rr,r1,r2,r3⟩:=er.keep s2.t;obtain⟨fq,fr,g1,g2,g3⟩:=ef;have gl:(bI ps (n+1-2^u-2^v)).2.length+0<=6:=(sO hps (n+1-2^u-2^v) (qBi (qAx (qFm _ _) (qFm _ _)) hn)).len (by lia);exists _,rfl,_,rfl,_,rfl,AL,_,_,_,rfl,rfl,T.al _,gU (by lia),_,_,rfl,rfl,_,rfl,AL,_,_,_,rfl,rfl,T.al _,gU hv,_,_,rfl,rfl,lb,_,_,_,rfl,rfl,aV.of (s2 _ _ hlb),hat2;exists _,rfl,_,rfl,tr,_,_,_,rfl,rfl,cQ.of r1,rfl,_,_,rfl,rfl,_,rfl,tf,_,_,_,rfl,rfl,cQ.of g1,rfl,_,_,rfl,rfl,_,rfl;refine cU (fun h5=>?_) (fun h5=>?_)
    .have h5:c+(bI ps (n+1-2^u-2^v)).1>F.1:=of_decide_eq_true h5;have eF:eU (bI ps) (n+1) F (u,v,c)=(c+(bI ps (n+1-2^u-2^v)).1,(u,v)::(bI ps (n+1-2^u-2^v)).2):=by
      delta eU;rw[if_pos ⟨c1,h4⟩,if_pos h5]
     rw[eF] at tk;refine⟨_,rfl,_,rfl,tr,_,_,_,rfl,rfl,cQ.of r1,rfl,_,_,rfl,rfl,_,rfl,_,rfl,kY,fun t1 ht1=>⟨mH,fun t2 ht2=>?_⟩⟩;have u1:=aJ.aI (o:=.tup [V.int (u:Int),V.int (v:Int)]) ht1;have u2:=aJ.aI (o:=.tup [V.ref t1]) ht2;have u12:=u1.trans u2;have d1:=u2 _ _ (aC (H:=H2) (a:=t1) (o:=.tup [V.int (u:Int),V.int (v:Int)]));have fin:∀(p:Addr) (H3:Hp),aJ (upd (upd H2 t1 (.tup [V.int (u:Int),V.int (v:Int)])) t2 (.tup [V.ref t1])) H3->H3 p=some (.tup ((t1::rr).map V.ref))->∀tt,H3 tt=none->Aj (upd H3 tt (.tup [.int (c+(bI ps (n+1-2^u-2^v)).1),.ref p])) tt ((ps.take (i+1)).foldl (eU (bI ps) (n+1)) (bI ps (n+1-2^lo (n+1))))/\aJ H (upd H3 tt (.tup [.int (c+(bI ps (n+1-2^u-2^v)).1),.ref p])):=fun p H3 s3 hp3 tt htt=>by
      have u3:=aJ.aI (o:=.tup [.int (c+(bI ps (n+1-2^u-2^v)).1),.ref p]) htt;rw[tk];refine⟨⟨p,t1::rr,aC,u3 _ _ hp3,.cons (u3 _ _ (s3 _ _ d1)) (r3.imp fun _ _ z=>z.keep ((u12.trans s3).trans u3).t)⟩,((s2.trans u12).trans s3).trans u3⟩
     refine⟨_,rfl,tr,_,_,_,rfl,rfl,cQ.of (u12 _ _ r1),rfl,t2,rq,_,_,rfl,rfl,cQ.of aC,cQ.of (u12 _ _ r2),by simp,?_,fun e=>?_,fun e p hp=>?_⟩
     .rw[qAa,r3.len];show 1+_<=qAg;exact qAx (m:=7) (by lia) #[1]
     .refine⟨kY,fun tt htt=>?_⟩;have e':rr=[]:=by simpa using e
      subst e';obtain⟨q1,q2⟩:=fin t2 _ (.refl _) aC tt htt;exact⟨q2,tt,_,_,_,_,q1,rfl⟩
     .refine⟨kY,fun tt htt=>?_⟩;obtain⟨q1,q2⟩:=fin p _ (.aI hp) aC tt htt;exact⟨q2,tt,_,_,_,_,q1,rfl⟩
    .have h5:¬c+(bI ps (n+1-2^u-2^v)).1>F.1:=fun z=>h5 (decide_eq_true z);refine⟨s2,tf,_,_,_,_,kM ?_,rfl⟩;delta eU;rw[if_pos ⟨c1,h4⟩,if_neg h5]
   .have h4:¬both (n+1) u v=true:=h4;refine⟨s2,tf,_,_,_,_,kM ?_,rfl⟩;delta eU;rw[if_neg fun z=>h4 z.2]
  .have c1:¬u=lo (n+1):=fun z=>h3 (decide_eq_true (by rw[z]));refine bK ?_;refine⟨s2,tf,_,_,_,_,kM ?_,rfl⟩;delta eU;rw[if_neg fun z=>c1 z.1]
 .rintro σ' H2 ⟨s2,tf,o5,o6,o7,o8,ef,rfl⟩;rw[qAa,hbs.len,qEk] at ef;exact⟨_,rfl,k tf H2 s2 (by rw[nF ps ne];exact ef)⟩
def Ot:Sp:=fun vs H Q _=>∃(lp:Addr) (bs:List Addr) (ps:List P3) (m:Nat),vs=[.int (m:Int),.ref lp]/\H lp=some (.lst (bs.map V.ref))/\A2 (dW H) bs ps/\(∀p∈ps,p.1<p.2.1/\p.2.1<6)/\1<=m/\m<=6 /\
 ∀(l:Addr) (ts:List Addr) (H':Hp),H l=none->aJ H H'->H' l=some (.lst (ts.map V.ref))->A2 (Aj H') ts (gC ps (2^m-1))->Q (.ref l) H'
theorem Kq:aN ["many","pairs","best","group"] ["many","pairs"] (aH QA):=#[1,2]
theorem Ou(t:Tx K mg "best_pairings" QA ["many","pairs"] f fd)(T:#[4])(D_whole_company:#[5] 1 "whole_company" ["many"] FJ f1 fd1)(D_best_of_group:#[5] 5 "best_of_group" ["best","pairs","group"] Oo f2 fd2):
  #[5] 6 "best_pairings" ["many","pairs"] Ot f fd:=by
 refine t.jI Kq (by rintro _ _ _ _⟨lp,bs,ps,m,rfl,_⟩;rfl) fun _ _ _ _ H vs Q E hr h=>?_;obtain⟨lp,bs,ps,m,rfl,hlp,hbs,hps,m1,m6,k⟩:=h;refine⟨_,(aD (bB (i:=2) Kq.nd rfl cC (bO (aA (cJ (aA aE (aA (cJ aB) aB))) aB)))
  (aD (dJ #[9] rfl (j3 #[0] T.cO (aA aE (aA (aL cR (bH D_whole_company hr #[1] #[0] (aA (pv 0) aB)) aE) aB))) (aK (i:=3) Kq.nd rfl cC)
   (aG (bQ (eD qCp qCk qCj dN (pv 2) (aA (bH D_best_of_group hr #[1] #[0] (aA (pv 2) (aA (pv 1) (aA (pv 3) aB)))) aB)))))
  (aG (aS (pv 2))))),?_⟩
 have h64:2^m<=64:=qBt (n:=2) #[1] m6;have h2:1<=2^m:=qFt;refine⟨by show 0<=qAg;decide,fun te hte=>⟨kY,fun t0 ht0=>⟨mH,fun l hl=>?_⟩⟩⟩;have u1:=aJ.aI (o:=.tup []) hte;have u2:=aJ.aI (o:=.tup [V.int 0,V.ref te]) ht0;have u3:=aJ.aI (o:=.lst [V.ref t0]) hl;have s0:=(u1.trans u2).trans u3;have l0:H l=none:=(u1.trans u2).free hl;have e0:Aj (upd (upd (upd H te (.tup [])) t0 (.tup [V.int 0,V.ref te])) l (.lst [V.ref t0])) t0 ((0,[]):E2):=⟨te,[],u3 _ _ aC,u3 _ _ (u2 _ _ aC),.nil⟩;have hl0:upd (upd (upd H te (.tup [])) t0 (.tup [V.int 0,V.ref te])) l (.lst [V.ref t0]) l=some (.lst ([t0].map V.ref)):=aC;generalize upd (upd (upd H te (.tup [])) t0 (.tup [V.int 0,V.ref te])) l (.lst [V.ref t0])=H1 at s0 e0 hl0|-;clear u1 u2 u3 hte ht0 hl;have e2:((2:Int)^m-1+1-1).toNat=2^m-1:=by
  have e:((2^m:Nat):Int)=2^m:=by push_cast;rfl
  lia
 have e3:((2^m:Nat):Int)=2^m:=by push_cast;rfl
 refine⟨_,rfl,m,rfl,m6,fun H2 s2=>⟨_,_,rfl,rfl,1,_,rfl,⟨by decide,by decide,by lia,by lia⟩,?_⟩⟩;rw[e2];refine eC (n:=2^m-1) (fun i σ' H'=>aJ H H'/\∃(ts:List Addr) (o3:Option V),H' l=some (.lst (ts.map V.ref))/\A2 (Aj H') ts (gC ps i)/\σ'=[some (.int (m:Int)),some (.ref lp),some (.ref l),o3]) ?_ ?_ ?_
 .exact⟨s0.trans s2,[t0],none,s2 _ _ hl0,.cons (e0.keep s2.t) .nil,rfl⟩
 .rintro i σ' H3 hi ⟨s3,ts,o3,h3,h4,rfl⟩;refine⟨_,rfl,.inl ⟨rfl,_,aV.of h3⟩,_,rfl,_,rfl,_,rfl,l,lp,ts,bs,ps,i,?_,h3,h4,s3 _ _ hlp,hbs.imp fun _ _ z=>z.keep s3.t,hps,by lia,fun tn H4 s4 e4=>?_⟩
  .show [V.ref l,V.ref lp,V.int (1+(i:Int))]=_;rw[show(1:Int)+(i:Int)=((i+1:Nat):Int) by lia]
  refine⟨l,_,_,rfl,rfl,s4 _ _ h3,?_,(s3.trans s4).upd_ne' l0,ts++[tn],_,by rw[aC,qBw];rfl,?_,rfl⟩
  .rw[qAa,h4.len,gT];exact aO (by lia)
  .have kt:eO H4 (upd H4 l (.lst (ts.map V.ref++[V.ref tn]))):=eO.lst (s4 _ _ h3);have z:gC ps (i+1)=gC ps i++[bI ps (i+1)]:=by rw[p3];rfl
   rw[z];exact(h4.imp fun _ _ z=>z.keep (fun b xs e=>kt _ _ (s4 _ _ e))).snoc (e4.keep kt)
 .rintro σ' H3 ⟨s3,ts,o3,h3,h4,rfl⟩;exact⟨_,rfl,k l ts H3 l0 s3 h3 h4⟩
theorem A2.mem(h:A2 R as xs):(∀a∈as,∃x∈xs,R a x)/\∀x∈xs,∃a∈as,R a x:=by
 induction h with
 | nil=>exact⟨fun _ h=>(qCs h).elim,fun _ h=>(qCs h).elim⟩
 | cons r _ ih =>
  refine⟨fun a ha=>?_,fun x hx=>?_⟩
  .rcases List.mem_cons.mp ha with rfl | ha
   .exact⟨_,by simp,r⟩
   .obtain⟨x,hx,e⟩:=ih.1 a ha;exact⟨x,qAs _ hx,e⟩
  .rcases List.mem_cons.mp hx with rfl | hx
   .exact⟨_,by simp,r⟩
   .obtain⟨a,ha,e⟩:=ih.2 x hx;exact⟨a,qAs _ ha,e⟩
theorem dW.eq(h:dW H b p)(h':dW H b p'):p=p':=by
 obtain⟨u,v,n⟩:=p;obtain⟨u',v',n'⟩:=p';have z:some (HO.tup [.int (u:Int),.int (v:Int),.int n])=some (HO.tup [.int (u':Int),.int (v':Int),.int n']):=h.symm.trans h';have z:=HO.tup.inj (Option.some.inj z);simp only[List.cons.injEq,V.int.injEq,and_true] at z;obtain⟨z1,z2,z3⟩:=z;rw[show u=u' by lia,show v=v' by lia,z3]
def lZ(ps:List P3):Prop:=ps.Pairwise fun p q=>p.1<q.1\/p.1=q.1/\p.2.1<q.2.1
theorem dW.ky(h:dW H b p):lV H b=((p.1:Int),(p.2.1:Int)):=by
 delta lV;rw[eJ (show H b=some (.tup [.int (p.1:Int),.int (p.2.1:Int),.int p.2.2]) from h)];rfl
theorem A2.Ri(h:A2 R bs ps):∀p∈ps,∃b∈bs,R b p:=by
 induction h with
 | nil=>intro p hp;cases hp
 | cons r _ ih =>
  intro p hp;rcases List.mem_cons.mp hp with rfl | hp
  .exact⟨_,qBn,r⟩
  .obtain⟨b,hb,z⟩:=ih p hp;exact⟨b,qAs _ hb,z⟩
theorem A2.qI(h:A2 (dW H) bs ps)(s:bs.Pairwise fun a b=>zG (lV H a) (lV H b)):lZ ps:=by
 delta lZ;induction h with
 | nil=>exact .nil
 | cons r t ih =>
  rw[qIu] at s|-;refine⟨fun p hp=>?_,ih s.2⟩;obtain⟨b,hb,z⟩:=t.Ri p hp;have y:=s.1 b hb;rw[r.ky,z.ky] at y;delta zG at y;dsimp only at y;lia
theorem Kr{H H':Hp}{bs:List Addr}(t:eO H H')(ht:∀a∈bs,∃xs,H a=some (.tup xs))(h:bs.Pairwise fun a b=>zG (lV H a) (lV H b)):bs.Pairwise fun a b=>zG (lV H' a) (lV H' b):=by
 have e:∀a∈bs,lV H' a=lV H a:=fun a ha=>by
  obtain⟨xs,hx⟩:=ht a ha;delta lV;rw[eJ hx,eJ (t a xs hx)]
 refine h.imp_of_mem fun {a b} ha hb z=>?_;rw[e a ha,e b hb];exact z
def uF(MA:Addr)(H:Hp)(a lb:Addr)(m:Nat)(ps:List P3):Prop:=∃(dx l:Addr) (ts:List Addr),H a=some (.ins MA dx [("many",.int (m:Int)),("pairs",.ref l),("best",.ref lb)])/\H lb=some (.lst (ts.map V.ref))/\A2 (Aj H) ts (gC ps (2^m-1))/\1<=m/\m<=6/\Pw m ps
theorem uF.same(h:uF MA H a lb m ps)(s:aJ H H'):uF MA H' a lb m ps :=
 let ⟨dx,l,ts,h1,h2,h3,h4⟩:=h;⟨dx,l,ts,s _ _ h1,s _ _ h2,h3.imp fun _ _ z=>z.keep s.t,h4⟩
theorem Pw.six(h:Pw m ps)(h6:m<=6):Pw 6 ps:=⟨fun p hp=>let ⟨a,b⟩:=h.1 p hp;⟨a,by lia⟩,h.2⟩
def Ks(MA:Addr):Sp:=fun vs H Q _=>∃(x dx p:Addr) (m:Nat) (as:List Addr),vs=[.ref x,.int (m:Int),.ref p]/\H x=some (.ins MA dx [])/\H p=some (.lst (as.map V.ref))/\fD m H as/\1<=m/\m<=6 /\
 ∀(l lb:Addr) (bs:List Addr) (ps:List P3) (H':Hp),H lb=none->bs.Perm as->SameBut x H H'->A2 (dW H') bs ps->uF MA H' x lb m ps->(∃dx,H' x=some (.ins MA dx [("many",.int (m:Int)),("pairs",.ref l),("best",.ref lb)]))->H' l=some (.lst (bs.map V.ref))->lZ ps->H l=none->Q .non H'
theorem Rj:aN ["self","many","pairs"] ["self","many","pairs"] (aH Me):=#[1,2]
theorem Ov{f1 f2:Addr}{fd1 fd2:qCi}(t:Mx K "__init__" "Match.__init__" Me ["self","many","pairs"] f fd)(T:#[4])(D_RI:#[1,0] 4 ["self","many"] (uC K NL) iR)(D_sorted_pairs:#[1,1] 4 "sorted_pairs" ["many","pairs"] (Ae K NL) f1 fd1)(D_best_pairings:#[5] 6 "best_pairings" ["many","pairs"] Ot f2 fd2):
  #[1,0] 7 ["self","many","pairs"] (Ks MA) f:=by
 refine t.CQ Rj (by rintro _ _ _ _⟨x,dx,p,m,as,rfl,_⟩;rfl) fun _ _ _ _ H vs Q E hr h=>?_;obtain⟨x,dx,p,m,as,rfl,hx,hp,ok,m1,m6,k⟩:=h;refine⟨_,(aD (bQ (rW bD.toPass #[0] T.DD T.Ms D_RI hr #[1] (aA (pv 0) (aA (pv 1) aB))))
  (aD (gF (pv 0) (fA bD.toPass D_sorted_pairs hr #[1] #[0] (aA (pv 1) (aA (pv 2) aB))) rfl)
  (aG (gF (pv 0) (bH D_best_pairings hr #[1] #[0] (aA (pv 1) (aA (cF (pv 0) rfl) aB))) rfl)))),?_⟩
 have i16:mG 1 6 (.int (m:Int))=true:=by rw[iI,decide_eq_true m1,decide_eq_true m6];rfl
 refine⟨_,rfl,_,rfl,x,MA,dx,_,rfl,hx,T.FG.oc.cl,T.FG.nm,.int _,fun no=>(by rw[i16] at no;cases no),fun yes=>?_⟩;have at_:∀b o,(∀C dx fs,o≠HO.ins C dx fs)->H b=some o->upd H x (.ins MA dx [("many",V.int (m:Int))]) b=some o:=fun b o n e=>by
  rw[aQ]
  .exact e
  .rintro rfl;rw[hx] at e;exact n _ _ _ (Option.some.inj e).symm
 have hp1:=at_ _ _ (by intro _ _ _ z;cases z) hp;have CB:fD m (upd H x (.ins MA dx [("many",V.int (m:Int))])) as:=ok.same fun b hb o e=>by
  obtain⟨u,v,n,e',_⟩:=ok.1 b hb;rw[e'] at e;exact(Option.some.inj e)▸at_ _ _ (by intro _ _ _ z;cases z) e'
 have sb:SameBut x H (upd H x (.ins MA dx [("many",V.int (m:Int))])):=((aJ.refl H).but x).jD _;refine⟨_,rfl,_,rfl,(m:Int),p,as,rfl,hp1,CB.jJ,by have:=ok.2.2;lia,fun no H1 s1=>(by rw[CB.ok] at no;cases no),fun _ l bs H1 hl hb hpw s1 h1=>?_⟩;have hx1:=s1 _ _ (aC (H:=H) (a:=x) (o:=.ins MA dx [("many",V.int (m:Int))]));refine⟨_,rfl,x,MA,dx,_,rfl,hx1,T.FG.oc.cl,T.QG,(by show 1<1000;decide),?_⟩;have nl:l≠x:=(bG (aC (H:=H) (a:=x) (o:=.ins MA dx [("many",V.int (m:Int))])) hl).symm;have Qs:fD m H1 bs:=(CB.Ah hb).same fun b _ o e=>s1 _ _ e;obtain⟨ps,a2,pw⟩:=Qs.pw;have at2:∀b xs,H1 b=some (HO.tup xs)->upd H1 x (.ins MA dx [("many",V.int (m:Int)),("pairs",.ref l)]) b=some (.tup xs):=fun b xs e=>by
  rw[aQ (fP e hx1 (fun z=>nomatch z))];exact e
 refine⟨_,rfl,_,rfl,x,MA,dx,_,_,rfl,aC,T.FG.oc.cl,T.QG,rfl,l,bs,ps,m,rfl,(by show upd _ _ _ l=_;rw[aQ nl];exact h1),a2.imp fun _ _ z=>z.keep at2,(pw.six m6).1,m1,m6,fun lb ts H2 hlb s2 h2 hts=>?_⟩;have hx2:=s2 _ _ (aC (H:=H1) (a:=x) (o:=.ins MA dx [("many",V.int (m:Int)),("pairs",.ref l)]));have nlb:lb≠x:=(bG (aC (H:=H1) (a:=x) (o:=.ins MA dx [("many",V.int (m:Int)),("pairs",.ref l)])) hlb).symm;refine⟨_,rfl,x,MA,dx,_,rfl,hx2,T.FG.oc.cl,T.Nz,(by show 2<1000;decide),?_⟩;have hlb0:H lb=none:=by
  have z:H1 lb=none:=by
   have:upd H1 x (.ins MA dx [("many",V.int (m:Int)),("pairs",.ref l)]) lb=none:=hlb;rw[aQ nlb] at this;exact this
  have y:=s1.free z;rw[aQ nlb] at y;exact y
 have at3:∀(o:HO),eO H2 (upd H2 x o):=fun o b xs e=>by
  rw[aQ (fP e hx2 (fun z=>nomatch z))];exact e
 exact k l lb bs ps _ hlb0 hb ((((sb.then s1).jD _).then s2).jD _) (a2.imp fun _ _ z=>((z.keep at2).keep s2.t).keep (at3 _)) ⟨dx,l,ts,aC,(by rw[aQ nlb];exact h2),hts.imp fun _ _ z=>z.keep (at3 _),m1,m6,pw⟩ ⟨dx,aC⟩ (by rw[aQ nl];exact s2 _ _ (by rw[aQ nl];exact h1)) (a2.qI (Kr s1.t (fun a ha=>let ⟨u,v,n,e,_⟩:=CB.1 a (hb.mem_iff.mp ha);⟨_,e⟩) hpw)) (by rw[aQ nl] at hl;exact hl)
def Kt(MA:Addr):Sp:=fun vs H Q _=>∃(a lb:Addr) (m:Nat) (ps:List P3) (g:Nat),vs=[.ref a,.int (g:Int)]/\uF MA H a lb m ps/\g<2^m/\Q (.int (bI ps g).1) H
theorem Rk:aN ["self","group"] ["self","group"] (aH Mf):=#[1,2]
theorem Ow(t:Mx K "reckon" "Match.reckon" Mf ["self","group"] f fd)(T:#[4]):#[1,0] 1 ["self","group"] (Kt MA) f:=by
 refine t.tQ Rk (by rintro _ _ _ _⟨a,lb,m,ps,g,rfl,_⟩;rfl) fun _ _ _ _ H vs Q E hr h=>?_;obtain⟨a,lb,m,ps,g,rfl,mo,hg,k⟩:=h;refine⟨_,(aG (aS (aX bL (aX bF (cF (pv 0) rfl) (pv 1) #[6]) aE #[6]))),?_⟩;obtain⟨dx,l,ts,h1,h2,h3,h4⟩:=mo;obtain⟨tb,hb,q,rs,e1,e2,e3⟩:=p4 h3 (i:=g) (by lia);exact⟨_,rfl,a,MA,dx,_,_,rfl,h1,T.FG.oc.cl,T.Nz,rfl,_,rfl,lb,_,_,_,rfl,rfl,aV.of h2,uE hb,tb,_,_,_,rfl,rfl,cQ.of e1,rfl,k⟩
theorem BP(D:#[1,0] 1 ["self","group"] (Kt MA) rM)(c:RC K fE fH RU MA rM){H:Hp}{a lb:Addr}{m:Nat}{ps:List P3}(h:uF MA H a lb m ps):nB P w K mg base fE fH RU H a m (fun g=>(bI ps g).1):=by
 have h':=h;obtain⟨dx,l,ts,h1,h2,h3,h4,h5,h6⟩:=h';exact⟨MA,dx,rM,_,h1,c,rfl,h4,h5,⟨rfl,rfl,rfl⟩,_,(D.up #[1]).imp (by rintro vs H2 Q _ ⟨gr,e,hg,s,q⟩;exact ⟨a,lb,m,ps,gr,e,h.same s,hg,q H2 (.refl _)⟩)⟩
def ea(r:P3):Nat:=r.1
def eb(r:P3):Nat:=if r.1=r.2.1 then 6 else r.2.1
def eV(r:P3):Nat:=2^ea r+2^eb r
def dU(r:P3):Prop:=r.1<=r.2.1/\r.2.1<6
def uS(G:Nat)(r:P3):Bool:=aW G (ea r)&&aW G (eb r)
def jn(J G:Nat)(r:P3):Bool:=uS G r&&(aW J (ea r) != aW J (eb r))
theorem dU.lt(h:dU r):ea r<6/\eb r<7/\ea r≠eb r:=by
 obtain⟨h1,h2⟩:=h;delta ea eb;split <;> lia
theorem Ku:∀(J:_root_.Fin 128) (a b k:_root_.Fin 7),aW (J.1 ||| (2^a.1+2^b.1)) k.1=(aW J.1 k.1||decide (k.1=a.1)||decide (k.1=b.1))\/a.1=b.1:=by decide +kernel
theorem Ox:∀(J:_root_.Fin 128) (a b:_root_.Fin 7),J.1 ||| (2^a.1+2^b.1)<128\/a.1=b.1:=by decide +kernel
theorem jU(hJ:J<128)(h:dU r)(hk:k<7):aW (J ||| eV r) k=(aW J k||decide (k=ea r)||decide (k=eb r)):=by
 obtain⟨h1,h2,h3⟩:=h.lt;exact(Ku ⟨J,hJ⟩ ⟨ea r,by lia⟩ ⟨eb r,h2⟩ ⟨k,hk⟩).resolve_right h3
theorem uG(hJ:J<128)(h:dU r):J ||| eV r<128:=by
 obtain⟨h1,h2,h3⟩:=h.lt;exact(Ox ⟨J,hJ⟩ ⟨ea r,by lia⟩ ⟨eb r,h2⟩).resolve_right h3
def jV(J:Nat):Nat:=((qAh 7).filter (aW J)).length
theorem DQ:∀(J:_root_.Fin 128) (a b:_root_.Fin 7),(aW J.1 a.1 != aW J.1 b.1)=true->jV (J.1 ||| (2^a.1+2^b.1))=jV J.1+1:=by decide +kernel
theorem uH(hJ:J<128)(h:dU r)(hj:(aW J (ea r) != aW J (eb r))=true):jV (J ||| eV r)=jV J+1:=by
 obtain⟨h1,h2,h3⟩:=h.lt;exact DQ ⟨J,hJ⟩ ⟨ea r,by lia⟩ ⟨eb r,h2⟩ hj
theorem p5:∀g:_root_.Fin 64,jV (g.1+64)=(dH g.1).length+1:=by decide +kernel
def jW(xs:List P3)(r:P3):Prop:=∃i,xs[i]?=some r/\∀(j:Nat) (y:P3),xs[j]?=some y->r.2.2<=y.2.2/\(j<i->r.2.2<y.2.2)
theorem jW.uniq(h:jW xs r)(h':jW xs r'):r=r':=by
 obtain⟨i,hi,h1⟩:=h;obtain⟨i',hi',h2⟩:=h';have a:=h1 i' r' hi';have b:=h2 i r hi;have e:i=i':=by
  rcases qHg i i' with z | z | z
  .have:=b.2 z;have:=a.1;lia
  .exact z
  .have:=a.2 z;have:=b.1;lia
 subst e;exact Option.some.inj (hi.symm.trans hi')
theorem jW.mem(h:jW xs r):r∈xs:=let ⟨_,hi,_⟩:=h;qAq hi
theorem jW.le(h:jW xs r)(hy:y∈xs):r.2.2<=y.2.2:=by
 obtain⟨i,_,h1⟩:=h;obtain⟨j,hj⟩:=qIg hy;exact(h1 j y hj).1
inductive Run (rs:List P3) (G:Nat):Nat->List P3->Prop
 | stop:Run rs G G []
 | step {J:Nat}{r:P3}{l:List P3}:J≠G->jW (rs.filter (jn J G)) r->Run rs G (J ||| eV r) l->Run rs G J (r::l)
theorem Run.uniq(h:Run rs G J l)(h':Run rs G J l'):l=l':=by
 induction h generalizing l' with
 | stop =>
  cases h' with
  | stop=>rfl
  | step ne _ _=>exact absurd rfl ne
 | step ne m _ ih =>
  cases h' with
  | stop=>exact absurd rfl ne
  | step _ m' r' =>
   have e:=m.uniq m';subst e;rw[ih r']
theorem wL{J G:Nat}{rs:List P3}{r:P3}(h:jW (rs.filter (jn J G)) r):r∈rs/\uS G r=true/\(aW J (ea r) != aW J (eb r))=true:=by
 have m:=List.mem_filter.mp h.mem;have z:(uS G r&&(aW J (ea r) != aW J (eb r)))=true:=m.2;rw[qAv] at z;exact⟨m.1,z.1,z.2⟩
theorem Run.facts{rs:List P3}{G J:Nat}{l:List P3}(ok:∀r∈rs,dU r)(h:Run rs G J l)(hJ:J<128):(∀r∈l,r∈rs/\uS G r=true)/\(∀r∈l,¬(aW J (ea r)=true/\aW J (eb r)=true))/\(l.map fun r=>(r.1,r.2.1)).Nodup/\l.length+jV J=jV G:=by
 induction h with
 | stop=>exact⟨fun _ h=>(qCs h).elim,fun _ h=>(qCs h).elim,qKj,by simp⟩
 | @step J r l ne m h ih =>
  obtain⟨hr,hg,hj⟩:=wL m;have o:=ok r hr;obtain⟨o1,o2,o3⟩:=o.lt;obtain⟨i1,i2,i3,i4⟩:=ih (uG hJ o);have up:∀k,k<7->aW J k=true->aW (J ||| eV r) k=true:=fun k hk z=>by rw[jU hJ o hk,z];rfl
  have both:aW (J ||| eV r) (ea r)=true/\aW (J ||| eV r) (eb r)=true:=⟨by rw[jU hJ o (by lia)];simp,by rw[jU hJ o o2];simp⟩;exists fun r' hr'=>?_,fun r' hr' z=>?_,?_
  .rcases List.mem_cons.mp hr' with rfl | hr'
   .exact⟨hr,hg⟩
   .exact i1 r' hr'
  .rcases List.mem_cons.mp hr' with rfl | hr'
   .rw[z.1,z.2] at hj;exact absurd hj #[1]
   .obtain⟨p1,p2,_⟩:=(ok r' (i1 r' hr').1).lt;exact i2 r' hr' ⟨up _ (by lia) z.1,up _ p2 z.2⟩
  .rw[qBa,qJy];refine⟨fun z=>?_,i3⟩;obtain⟨r',hr',e⟩:=List.mem_map.mp z;have e1:r'.1=r.1:=(Prod.mk.inj e).1;have e2:r'.2.1=r.2.1:=(Prod.mk.inj e).2;have f1:ea r'=ea r:=e1;have f2:eb r'=eb r:=by delta eb;rw[e1,e2]
   exact i2 r' hr' (by rw[f1,f2];exact both)
  .rw[qAw];have:=uH hJ o hj;lia
inductive Cn (R:P3->Prop):Nat->Nat->Prop
 | refl (a:Nat):Cn R a a
 | fw {a:Nat}{r:P3}:R r->Cn R a (ea r)->Cn R a (eb r)
 | bw {a:Nat}{r:P3}:R r->Cn R a (eb r)->Cn R a (ea r)
theorem Cn.trans(h:Cn R a b)(h':Cn R b c):Cn R a c:=by
 induction h' with
 | refl=>exact h
 | fw r _ ih=>exact .fw r ih
 | bw r _ ih=>exact .bw r ih
theorem Cn.symm(h:Cn R a b):Cn R b a:=by
 induction h with
 | refl=>exact .refl _
 | fw r _ ih=>exact(Cn.bw r (.refl _)).trans ih
 | bw r _ ih=>exact(Cn.fw r (.refl _)).trans ih
theorem Cn.mono(f:∀r,R r->S r){a b:Nat}(h:Cn R a b):Cn S a b:=by
 induction h with
 | refl=>exact .refl _
 | fw r _ ih=>exact .fw (f _ r) ih
 | bw r _ ih=>exact .bw (f _ r) ih
theorem Cn.Oy(h:Cn R a b)(hb:aW J a≠aW J b):∃r,R r/\(aW J (ea r) != aW J (eb r))=true:=by
 induction h with
 | refl=>exact absurd rfl hb
 | @fw r hr h ih =>
  by_cases e:aW J (ea r)=aW J (eb r)
  .exact ih (by rw[e];exact hb)
  .exact⟨r,hr,by simpa using e⟩
 | @bw r hr h ih =>
  by_cases e:aW J (ea r)=aW J (eb r)
  .exact ih (by rw[<- e];exact hb)
  .exact⟨r,hr,by simpa using e⟩
def Bn(rs:List P3)(G J:Nat)(L:List P3):Prop:=∀(c:Int) (a b:Nat),a<7->b<7->aW J a=true->aW J b=true->Cn (fun r=>r∈rs/\uS G r=true/\r.2.2<=c) a b->Cn (fun r=>r∈L/\r.2.2<=c) a b
theorem Bn.step{rs:List P3}{G J:Nat}{L:List P3}{r:P3}(ok:∀r∈rs,dU r)(h:Bn rs G J L)(hJ:J<128)(m:jW (rs.filter (jn J G)) r):Bn rs G (J ||| eV r) (L++[r]):=by
 obtain⟨hr,hg,hj⟩:=wL m;have o:=ok r hr;obtain⟨o1,o2,o3⟩:=o.lt;have old:∀c a b,a<7->b<7->aW J a=true->aW J b=true->Cn (fun r=>r∈rs/\uS G r=true/\r.2.2<=c) a b->Cn (fun r'=>r'∈L++[r]/\r'.2.2<=c) a b:=fun c a b ha hb h1 h2 z =>
  (h c a b ha hb h1 h2 z).mono fun r' q=>⟨qEb _ q.1,q.2⟩
 obtain⟨p,w,hp7,hw7,hp,hw,hw',join⟩:∃p w,p<7/\w<7/\aW J p=true/\aW J w=false/\(∀k,k<7->aW (J ||| eV r) k=true->aW J k=true\/k=w)/\∀(R:P3->Prop),R r->Cn R p w:=by
  cases e1:aW J (ea r) with
  | true =>
   have e2:aW J (eb r)=false:=by
    cases e2:aW J (eb r) with
    | true=>rw[e1,e2] at hj;exact absurd hj #[1]
    | false=>rfl
   refine⟨ea r,eb r,by lia,o2,e1,e2,fun k hk z=>?_,fun R hR=>.fw hR (.refl _)⟩;rw[jU hJ o hk,qDs,qDs] at z;rcases z with (z | z) | z
   .exact .inl z
   .have:=of_decide_eq_true z;subst this;exact .inl e1
   .exact .inr (of_decide_eq_true z)
  | false =>
   have e2:aW J (eb r)=true:=by
    cases e2:aW J (eb r) with
    | false=>rw[e1,e2] at hj;exact absurd hj #[1]
    | true=>rfl
   refine⟨eb r,ea r,o2,by lia,e2,e1,fun k hk z=>?_,fun R hR=>.bw hR (.refl _)⟩;rw[jU hJ o hk,qDs,qDs] at z;rcases z with (z | z) | z
   .exact .inl z
   .exact .inr (of_decide_eq_true z)
   .have:=of_decide_eq_true z;subst this;exact .inl e2
 have new:∀c b,b<7->aW J b=true->Cn (fun r=>r∈rs/\uS G r=true/\r.2.2<=c) w b->Cn (fun r'=>r'∈L++[r]/\r'.2.2<=c) w b:=fun c b hb h2 z=>by
  obtain⟨r',⟨q1,q2,q3⟩,q4⟩:=z.Oy (J:=J) (by rw[hw,h2];decide);have q5:r'∈rs.filter (jn J G):=List.mem_filter.mpr ⟨q1,by delta jn;rw[q2,q4];rfl⟩;have le:=m.le q5;have rc:r.2.2<=c:=by lia
  have y:=old c p b hp7 hb hp h2 ((join _ ⟨hr,hg,rc⟩).trans z);exact(join (fun r'=>r'∈L++[r]/\r'.2.2<=c) ⟨qAt _ (List.mem_singleton.mpr rfl),rc⟩).symm.trans y
 intro c a b ha hb h1 h2 z;rcases hw' a ha h1 with a1 | a1
 .rcases hw' b hb h2 with b1 | b1
  .exact old c a b ha hb a1 b1 z
  .subst b1;exact(new c a ha a1 z.symm).symm
 .subst a1;rcases hw' b hb h2 with b1 | b1
  .exact new c b hb b1 z
  .subst b1;exact .refl _
theorem Run.bn{rs:List P3}{G J:Nat}{l:List P3}(ok:∀r∈rs,dU r)(h:Run rs G J l):∀L,J<128->Bn rs G J L->Bn rs G G (L++l):=by
 induction h with
 | stop=>intro L _ b;rw[qCl];exact b
 | @step J r l ne m h ih =>
  intro L hJ b;have o:=ok r (wL m).1;have z:=ih (L++[r]) (uG hJ o) (b.step ok hJ m);rw[qDy] at z;exact z
theorem l4:∀k:_root_.Fin 7,aW 64 k.1=true->k.1=6:=by decide
theorem FU(rs:List P3)(G:Nat):Bn rs G 64 []:=fun c a b ha hb h1 h2 _=>by
 have e1:a=6:=l4 ⟨a,ha⟩ h1;have e2:b=6:=l4 ⟨b,hb⟩ h2;rw[e1,e2];exact .refl _
theorem Run.well{rs:List P3}{G J:Nat}{l:List P3}(ok:∀r∈rs,dU r)(h:Run rs G J l):∀L,J<128->(∀k,k<7->aW J k=true->Cn (fun r=>r∈L) 6 k)->∀k,k<7->aW G k=true->Cn (fun r=>r∈L++l) 6 k:=by
 induction h with
 | stop=>intro L _ b;rw[qCl];exact b
 | @step J r l ne m h ih =>
  intro L hJ b;obtain⟨hr,hg,hj⟩:=wL m;have o:=ok r hr;obtain⟨o1,o2,o3⟩:=o.lt;have z:=ih (L++[r]) (uG hJ o) fun k hk q=>by
   have old:∀k,k<7->aW J k=true->Cn (fun r'=>r'∈L++[r]) 6 k:=fun k hk y=>(b k hk y).mono fun r' q=>qEb _ q;have hm:r∈L++[r]:=qAt _ (List.mem_singleton.mpr rfl);rw[jU hJ o hk,qDs,qDs] at q;rcases q with (q | q) | q
   .exact old k hk q
   .have e:=of_decide_eq_true q;subst e;cases e1:aW J (ea r) with
    | true=>exact old _ (by lia) e1
    | false =>
     have e2:aW J (eb r)=true:=by
      cases e2:aW J (eb r) with
      | false=>rw[e1,e2] at hj;exact absurd hj #[1]
      | true=>rfl
     exact .bw hm (old _ o2 e2)
   .have e:=of_decide_eq_true q;subst e;cases e2:aW J (eb r) with
    | true=>exact old _ o2 e2
    | false =>
     have e1:aW J (ea r)=true:=by
      cases e1:aW J (ea r) with
      | false=>rw[e1,e2] at hj;exact absurd hj #[1]
      | true=>rfl
     exact .fw hm (old _ (by lia) e1)
  rw[qDy] at z;exact z
theorem gK(ok:∀r∈rs,dU r)(hg:g<64)(h:Run rs (g+64) 64 l):
  (∀r∈l,r∈rs/\uS (g+64) r=true)/\(l.map fun r=>(r.1,r.2.1)).Nodup/\l.length=(dH g).length/\(∀k,k<7->aW (g+64) k=true->Cn (fun r=>r∈l) 6 k) /\
  ∀r∈rs,uS (g+64) r=true->Cn (fun r'=>r'∈l/\r'.2.2<=r.2.2) (ea r) (eb r):=by
 obtain⟨f1,f2,f3,f4⟩:=h.facts ok #[1];have c1:=p5 ⟨g,hg⟩;have c1:jV (g+64)=(dH g).length+1:=c1;have c2:jV 64=1:=by decide
 have w:=h.well ok [] #[1] fun k hk q=>by
  have e:k=6:=l4 ⟨k,hk⟩ q;rw[e];exact .refl _
 have b:=h.bn ok [] #[1] (FU rs _);rw[qFo] at w b;refine⟨f1,f3,by lia,w,fun r hr hi=>?_⟩;have o:=ok r hr;obtain⟨o1,o2,o3⟩:=o.lt;have i2:=hi;unfold uS at i2;rw[qAv] at i2;exact b r.2.2 (ea r) (eb r) (by lia) o2 i2.1 i2.2 (.fw ⟨hr,hi,qIo _⟩ (.refl _))
def Ak:Sp:=fun vs H Q _=>∃(b:Addr) (r:P3),vs=[.ref b]/\dW H b r/\Q (.int r.2.2) H
theorem Oz:aN ["rope"] ["rope"] (aH Jm):=#[1,2]
theorem Kv(t:Tx K mg "cost_of" Jm ["rope"] f fd)(T:#[4]):#[5] 1 "cost_of" ["rope"] Ak f fd:=by
 refine t.jI Oz (by rintro _ _ _ _⟨b,r,rfl,_⟩;rfl) fun _ _ _ _ H vs Q E hr h=>?_;obtain⟨b,r,rfl,hb,k⟩:=h;refine⟨_,(aG (aS (aX bL (pv 0) aE #[6]))),?_⟩;exact⟨_,rfl,b,_,_,_,rfl,rfl,cQ.of hb,rfl,k⟩
theorem FV:∀u:_root_.Fin 6,qCq ((2^u.1:Nat):Int) 64=((2^u.1+2^6:Nat):Int):=by decide +kernel
theorem Kw:∀u v:_root_.Fin 6,u.1<v.1->qCq ((2^u.1:Nat):Int) ((2^v.1:Nat):Int)=((2^u.1+2^v.1:Nat):Int):=by decide +kernel
def DR:Sp:=fun vs H Q _=>∃(b:Addr) (r:P3),vs=[.ref b]/\dW H b r/\dU r/\Q (.int (eV r:Int)) H
theorem OA:aN ["rope"] ["rope"] (aH Jn):=#[1,2]
theorem Kx(t:Tx K mg "ends_of" Jn ["rope"] f fd)(T:#[4]):#[5] 1 "ends_of" ["rope"] DR f fd:=by
 refine t.jI OA (by rintro _ _ _ _⟨b,r,rfl,_⟩;rfl) fun _ _ _ _ H vs Q E hr h=>?_;obtain⟨b,⟨u,v,c⟩,rfl,hb,⟨h1,h2⟩,k⟩:=h;obtain⟨tkWE,hWE⟩:=T.we;refine⟨_,(aD (bN (aP bU (aX bL (pv 0) aE #[6]) (aX bL (pv 0) aE #[6]) (aT _)) (aG (aS (aL vA (aX bL (cB (v:=.ref AL) #[0] T.xS rfl) (aX bL (pv 0) aE #[6]) #[6]) (cB (v:=.int 64) #[0] hWE ⟨tkWE,rfl⟩)))) aZ)
  (aG (aS (aL vA (aX bL (cB (v:=.ref AL) #[0] T.xS rfl) (aX bL (pv 0) aE #[6]) #[6]) (aX bL (cB (v:=.ref AL) #[0] T.xS rfl) (aX bL (pv 0) aE #[6]) #[6]))))),?_⟩
 have h1:u<=v:=h1;have h2:v<6:=h2;have hb:H b=some (.tup [.int (u:Int),.int (v:Int),.int c]):=hb;refine⟨_,rfl,b,_,_,_,rfl,rfl,cQ.of hb,rfl,_,rfl,b,_,_,_,rfl,rfl,cQ.of hb,rfl,rfl,_,rfl,cU (fun h3=>?_) (fun h3=>?_)⟩
 .have e:u=v:=by have:=V.int.inj (of_decide_eq_true h3);lia
  subst e;exists _,rfl,b,_,_,_,rfl,rfl,cQ.of hb,rfl,AL,_,_,_,rfl,rfl,T.al _,gU h2,_,_,rfl,rfl;have z:=FV ⟨u,h2⟩;have e:eV (u,u,c)=2^u+2^6:=by
   delta eV ea eb;rw[if_pos rfl]
  rw[e] at k;show Q (.int (qCq ((2^u:Nat):Int) 64)) H;rw[show qCq ((2^u:Nat):Int) 64=((2^u+2^6:Nat):Int) from z];exact k
 .have e:u≠v:=fun z=>h3 (decide_eq_true (by rw[z]));exists _,rfl,b,_,_,_,rfl,rfl,cQ.of hb,rfl,AL,_,_,_,rfl,rfl,T.al _,gU (by lia),_,rfl,b,_,_,_,rfl,rfl,cQ.of hb,rfl,AL,_,_,_,rfl,rfl,T.al _,gU h2,_,_,rfl,rfl;have z:=Kw ⟨u,by lia⟩ ⟨v,h2⟩ (by show u<v;lia);have e2:eV (u,v,c)=2^u+2^v:=by
   delta eV ea eb;rw[if_neg e]
  rw[e2] at k;show Q (.int (qCq ((2^u:Nat):Int) ((2^v:Nat):Int))) H;rw[show qCq ((2^u:Nat):Int) ((2^v:Nat):Int)=((2^u+2^v:Nat):Int) from z];exact k
theorem FW:∀(J:_root_.Fin 128) (a b:_root_.Fin 7),a.1≠b.1->decide (qBm ((2^a.1+2^b.1:Nat):Int) (J.1:Int)=((2^a.1+2^b.1:Nat):Int))=(aW J.1 a.1&&aW J.1 b.1)/\decide (qBm ((2^a.1+2^b.1:Nat):Int) (J.1:Int)=0)=(!aW J.1 a.1 && !aW J.1 b.1):=by decide +kernel
theorem DS{J:Nat}{r:P3}(hJ:J<128)(h:dU r):decide (qBm (eV r:Int) (J:Int)=(eV r:Int))=(aW J (ea r)&&aW J (eb r))/\decide (qBm (eV r:Int) (J:Int)=0)=(!aW J (ea r) && !aW J (eb r)):=by
 obtain⟨h1,h2,h3⟩:=h.lt;exact FW ⟨J,hJ⟩ ⟨ea r,by lia⟩ ⟨eb r,h2⟩ h3
def GU:Sp:=fun vs H Q _=>∃(b:Addr) (r:P3) (J G:Nat),vs=[.ref b,.int (J:Int),.int (G:Int)]/\dW H b r/\dU r/\J<128/\G<128/\Q (.bl (jn J G r)) H
theorem Ky:decide (V.int a=V.int b)=decide (a=b):=decide_eq_decide.mpr ⟨V.int.inj,congrArg V.int⟩
theorem GV:aN ["rope","joined","ground","ends"] ["rope","joined","ground"] (aH Jo):=#[1,2]
theorem Kz{f1:Addr}{fd1:qCi}(t:Tx K mg "joins_on" Jo ["rope","joined","ground"] f fd)(T:#[4])(D_ends_of:#[5] 1 "ends_of" ["rope"] DR f1 fd1):#[5] 2 "joins_on" ["rope","joined","ground"] GU f fd:=by
 refine t.jI GV (by rintro _ _ _ _⟨b,r,J,G,rfl,_⟩;rfl) fun _ _ _ _ H vs Q E hr h=>?_;obtain⟨b,r,J,G,rfl,hb,ok,hJ,hG,k⟩:=h;refine⟨_,(aD (bB (i:=3) GV.nd rfl cC (bH D_ends_of hr #[1] #[0] (aA (pv 0) aB)))
  (aG (aS (kP (dD bU (aL fG (pv 3) (pv 2)) (pv 3) (aT _)) (kP (dD hV (aL fG (pv 3) (pv 1)) aE (aT _)) (mK (dD hV (aL fG (pv 3) (pv 1)) (pv 3) (aT _)))))))),?_⟩
 exists _,rfl,b,r,rfl,hb,ok;obtain⟨g1,_⟩:=DS hG ok;obtain⟨j1,j2⟩:=DS hJ ok;exists _,rfl,_,rfl,_,_,rfl,rfl,_,rfl,rfl,_,rfl;rw[Ky,g1];have ek:jn J G r=((aW G (ea r)&&aW G (eb r))&&(aW J (ea r) != aW J (eb r))):=rfl;rw[ek] at k;cases eg:(aW G (ea r)&&aW G (eb r)) with
 | false =>
  rw[eg] at k;exact bK k
 | true =>
  rw[eg] at k;refine dG ?_;exists _,rfl,_,rfl,_,_,rfl,rfl,rfl,_,rfl;rw[Ky,j2];have last:(!aW J (ea r) && !aW J (eb r))=false->LM RH (LM (Cf fun i j=>V.int (qBm i j)) (tD 3) (tD 1)) (tD 3) [some (.ref b),some (.int (J:Int)),some (.int (G:Int)),some (.int (eV r:Int))] H Q:=fun z=>by
   exists _,rfl,_,rfl,_,_,rfl,rfl,_,rfl,rfl;rw[Ky,j1];cases e1:aW J (ea r) <;> cases e2:aW J (eb r)
   .rw[e1,e2] at z;cases z
   .rw[e1,e2] at k;exact k
   .rw[e1,e2] at k;exact k
   .rw[e1,e2] at k;exact k
  cases e3:(!aW J (ea r) && !aW J (eb r)) with
  | true =>
   have e4:aW J (ea r)=false/\aW J (eb r)=false:=by
    cases e1:aW J (ea r) <;> cases e2:aW J (eb r) <;> rw[e1,e2] at e3 <;> first | exact⟨rfl,rfl⟩ | cases e3
   rw[e4.1,e4.2] at k;exact bK k
  | false=>exact dG (last e3)
def fX(H:Hp)(b:Addr):P3:=match H b with
 | some (.tup [.int u,.int v,.int c])=>(u.toNat,v.toNat,c)
 | _=>(0,0,0)
theorem dW.of(h:dW H b r):fX H b=r:=by
 delta fX;rw[show H b=some (.tup [.int (r.1:Int),.int (r.2.1:Int),.int r.2.2]) from h];rfl
theorem A2.filter(p:P3->Bool)(h:A2 (dW H) as rs):A2 (dW H) (as.filter fun b=>p (fX H b)) (rs.filter p):=by
 induction h with
 | nil=>exact .nil
 | @cons a x as xs r _ ih =>
  cases e:p x with
  | true =>
   rw[qCg (by rw[r.of];exact e),qCg e];exact .cons r ih
  | false =>
   rw[qCv (by rw[r.of,e];decide),qCv (by rw[e];decide)];exact ih
theorem nT(p:Addr->Bool):∀as:List Addr,(as.map V.ref).filterMap (fun x=>match x with | .ref b=>if p b=true then some (V.ref b) else none | _=>none)=(as.filter p).map V.ref
 | []=>rfl
 | a::as=>by
  have ih:=nT p as;rw[qBa];cases e:p a with
  | true =>
   rw[List.filterMap_cons_some (b:=V.ref a) (by show(if p a=true then _ else _)=_;rw[if_pos e]),qCg e,ih];rfl
  | false =>
   rw[List.filterMap_cons_none (by show(if p a=true then _ else _)=_;rw[if_neg (by rw[e];decide)]),qCv (by rw[e];decide),ih]
def GW:Sp:=fun vs H Q _=>∃(lr:Addr) (as:List Addr) (rs:List P3) (g:Nat),vs=[.ref lr,.int (g:Int)]/\H lr=some (.lst (as.map V.ref))/\A2 (dW H) as rs/\(∀r∈rs,dU r)/\(∀h,h<6->aW g h=true->∃r∈rs,r.1=h/\r.2.1=h)/\g<64/\as.length<=100 /\
 ∀(l:Addr) (cs:List Addr) (L:List P3) (H':Hp),H l=none->aJ H H'->H' l=some (.lst (cs.map V.ref))->A2 (dW H') cs L->Run rs (g+64) 64 L->Q (.ref l) H'
theorem FX:∀g:_root_.Fin 64,qCq (g.1:Int) 64=((g.1+64:Nat):Int):=by decide +kernel
theorem FY:∀(J:_root_.Fin 128) (a b:_root_.Fin 7),qCq (J.1:Int) ((2^a.1+2^b.1:Nat):Int)=((J.1 ||| (2^a.1+2^b.1):Nat):Int):=by decide +kernel
theorem p7:∀(g:_root_.Fin 64) (h:_root_.Fin 7),aW (g.1+64) h.1=(aW g.1 h.1||decide (h.1=6)):=by decide +kernel
theorem FZ:∀(J G:_root_.Fin 128),(∀h:_root_.Fin 7,aW J.1 h.1=aW G.1 h.1)->J.1=G.1:=by decide +kernel
theorem DT{rs:List P3}{g J:Nat}(hg:g<64)(hJ:J<128)(sub:∀h,h<7->aW J h=true->aW (g+64) h=true)(w6:aW J 6=true)(ne:J≠g+64)(wr:∀h,h<6->aW g h=true->∃r∈rs,r.1=h/\r.2.1=h):0<(rs.filter (jn J (g+64))).length:=by
 obtain⟨h,hh7,hh⟩:∃h,h<7/\aW J h≠aW (g+64) h:=by
  refine qDb fun z=>ne ?_;exact FZ ⟨J,hJ⟩ ⟨g+64,by lia⟩ fun h=>qDb fun q=>z ⟨h.1,h.2,q⟩
 have hG:aW (g+64) h=true:=by
  cases e:aW (g+64) h with
  | true=>rfl
  | false =>
   cases e2:aW J h with
   | true=>rw[sub h hh7 e2] at e;cases e
   | false=>rw[e,e2] at hh;exact absurd rfl hh
 have hJf:aW J h=false:=by
  cases e2:aW J h with
  | true=>rw[e2,hG] at hh;exact absurd rfl hh
  | false=>rfl
 have h6:h≠6:=fun z=>by rw[z,w6] at hJf;cases hJf
 have hb:=p7 ⟨g,hg⟩ ⟨h,hh7⟩;have hb:aW (g+64) h=(aW g h||decide (h=6)):=hb
 rw[hG,decide_eq_false h6,qKo] at hb;obtain⟨r,hr,e1,e2⟩:=wr h (by lia) hb.symm;have a1:ea r=h:=e1;have a2:eb r=6:=by delta eb;rw[if_pos (by rw[e1,e2])]
 have hw:=p7 ⟨g,hg⟩ ⟨6,by decide⟩;have hw:aW (g+64) 6=(aW g 6||decide (6=6)):=hw
 rw[decide_eq_true rfl,qJg] at hw;refine qHn (List.mem_filter.mpr ⟨hr,?_⟩);delta jn uS;rw[a1,a2,hG,hw,hJf,w6];rfl
theorem uI(J:Nat):jV J<=7:=by
 delta jV;exact qAx (qHy _ _) #[1]
theorem KA{J:Nat}{r:P3}(hJ:J<128)(h:dU r):qCq (J:Int) (eV r:Int)=((J ||| eV r:Nat):Int):=by
 obtain⟨h1,h2,h3⟩:=h.lt;exact FY ⟨J,hJ⟩ ⟨ea r,by lia⟩ ⟨eb r,h2⟩
theorem sP:aN ["ropes","group","ground","joined","laid","rope"] ["ropes","group"] (aH Jp):=#[1,2]
theorem KC{fC f1 f2:Addr}{fdC fd1 fd2:qCi}(t:Tx K mg "least_net" Jp ["ropes","group"] f fd)(T:#[4])(D_joins_on:#[5] 2 "joins_on" ["rope","joined","ground"] GU f1 fd1)(D_ends_of:#[5] 1 "ends_of" ["rope"] DR f2 fd2)(D_cost_of:#[5] 1 "cost_of" ["rope"] Ak fC fdC):
  #[5] 3 "least_net" ["ropes","group"] GW f fd:=by
 refine t.jI sP (by rintro _ _ _ _⟨lr,as,rs,g,rfl,_⟩;rfl) fun _ _ _ _ H vs Q E hr h=>?_;obtain⟨lr,as,rs,g,rfl,hlr,ha,ok,wr,hg,hlen,k⟩:=h;obtain⟨tkWE,hWE⟩:=T.we;refine⟨_,(aD (bB (i:=2) sP.nd rfl #[3] (aL vA (pv 1) (cB (v:=.int 64) #[0] hWE ⟨tkWE,rfl⟩)))
  (aD (bB (i:=3) sP.nd rfl #[3] (cB (v:=.int 64) #[0] hWE ⟨tkWE,rfl⟩))
  (aD (bB (i:=4) sP.nd rfl cC (bO aB))
  (aD (oY #[9] (aP hV (pv 3) (pv 2) (aT _))
   (aD (bB (i:=5) sP.nd rfl cC (Bk D_cost_of hr #[1] #[0] T.wF (cB (v:=.ref fC) #[0] D_cost_of.at_ rfl) (aA (bP (NB:=["each","ground","joined"]) (pick:=[none,some 2,some 3]) (bT #[7] (by exact(And.intro rfl (And.intro rfl trivial))) rfl #[2] #[2] #[0] #[0]) rfl
    (bM (pv 0)) (fun _ _ _=>aK (i:=0) #[8,["each","ground","joined"]] rfl cC)
    (fun _ _ _=>gL (cZ (bH D_joins_on hr #[1] #[0] (aA (pv 0) (aA (pv 2) (aA (pv 1) aB)))))) (fun _ _ _=>(pv 0))) aB)))
   (aD (bQ (eD qCp qCk qCj dN (pv 4) (aA (pv 5) aB)))
   (aG (bB (i:=3) sP.nd rfl #[3] (aL vA (pv 3) (bH D_ends_of hr #[1] #[0] (aA (pv 5) aB))))))))
  (aG (aS (pv 4))))))),?_⟩
 exists _,rfl,_,_,rfl,rfl;show bC 2 (V.int (qCq (g:Int) 64)) _ _ _;rw[show qCq (g:Int) 64=((g+64:Nat):Int) from FX ⟨g,hg⟩];refine⟨by show 0<=qAg;decide,fun l hl=>?_⟩;refine⟨fun m σ' H'=>∃(J:Nat) (cs:List Addr) (L:List P3) (o5:Option V),m=8-jV J/\J<128/\(∀h,h<7->aW J h=true->aW (g+64) h=true)/\aW J 6=true/\L.length+1=jV J/\aJ H H'/\H' l=some (.lst (cs.map V.ref))/\A2 (dW H') cs L/\(∀rest,Run rs (g+64) J rest->Run rs (g+64) 64 (L++rest))/\σ'=[some (.ref lr),some (.int (g:Int)),some (.int ((g+64:Nat):Int)),some (.int (J:Int)),some (.ref l),o5],⟨_,64,[],[],none,rfl,by decide,fun h hh z=>?_,by decide,by decide,.aI hl,aC,.nil,fun rest z=>z,rfl⟩,?_⟩
 .have e:h=6:=l4 ⟨h,hh⟩ z;subst e;have hw:=p7 ⟨g,hg⟩ ⟨6,by decide⟩;have hw:aW (g+64) 6=(aW g 6||decide (6=6)):=hw
  rw[decide_eq_true rfl,qJg] at hw;exact hw
 rintro m σ' H1 ⟨J,cs,L,o5,rfl,hJ,sub,w6,hL,s1,e1,a1,run,rfl⟩;refine⟨_,rfl,_,rfl,rfl,_,rfl,cU (fun hp=>?_) (fun hp=>?_)⟩
 .have ne:J≠g+64:=fun z=>by
   subst z;have hp:(!decide (V.int ((g+64:Nat):Int)=V.int ((g+64:Nat):Int)))=true:=hp;rw[decide_eq_true rfl] at hp;cases hp
  have pos:=DT hg hJ sub w6 ne wr;have aR:=a1;refine⟨fun σ' H'=>∃(J':Nat) (cs:List Addr) (L:List P3) (o5:Option V),jV J<jV J'/\J'<128/\(∀h,h<7->aW J' h=true->aW (g+64) h=true)/\aW J' 6=true/\L.length+1=jV J'/\aJ H H'/\H' l=some (.lst (cs.map V.ref))/\A2 (dW H') cs L/\(∀rest,Run rs (g+64) J' rest->Run rs (g+64) 64 (L++rest))/\σ'=[some (.ref lr),some (.int (g:Int)),some (.int ((g+64:Nat):Int)),some (.int (J':Int)),some (.ref l),o5],(by rintro σ' H' ⟨J',cs,L,o5,b1,b2,b3,b4,b5,b6,b7,b8,b9,b10⟩;exact ⟨8-jV J',by have:=uI J';have:=uI J;lia,J',cs,L,o5,rfl,b2,b3,b4,b5,b6,b7,b8,b9,b10⟩),?_⟩;have hlr1:=s1 _ _ hlr;have ha1:A2 (dW H1) as rs:=ha.imp fun _ _ z=>z.keep s1.t;exists _,rfl,lr,rfl,⟨_,aV.of hlr1⟩;refine cV (xs:=as.map V.ref) (fun _ x=>match x with | .ref b=>if jn J (g+64) (fX H1 b)=true then some (V.ref b) else none | _=>none) (aV.of hlr1) (by rw[qAa];exact qBb (aO (by lia))) (fun i x H2 kk kk0 s2 hx h1 h2=>?_) fun D H2 hD s2 hd=>?_
  .obtain⟨b,hb,rfl⟩:=at_of hx;obtain⟨r,hr,pr⟩:=ha1.at hb;have okr:=ok r (qAq hr);have pr2:=pr.keep s2.t;exists _,rfl,_,rfl,_,rfl,b,r,J,g+64,rfl,pr2,okr,hJ,by lia,_,rfl;cases ej:jn J (g+64) r with
   | true=>exact dG ⟨_,rfl,h1 _ (by show(if jn J (g+64) (fX H1 b)=true then some (V.ref b) else none)=_;rw[pr.of,if_pos ej]) _ (.refl _)⟩
   | false=>exact bK (h2 (by show(if jn J (g+64) (fX H1 b)=true then some (V.ref b) else none)=_;rw[pr.of,if_neg (by rw[ej];decide)]) _ (.refl _))
  .rw[cN,nT fun b=>jn J (g+64) (fX H1 b)] at hd;have aF:A2 (dW H2) (as.filter fun b=>jn J (g+64) (fX H1 b)) (rs.filter (jn J (g+64))):=(ha1.filter (jn J (g+64))).imp fun _ _ z=>z.keep s2.t;generalize (as.filter fun b=>jn J (g+64) (fX H1 b))=fs at hd aF;have kfa:∀(i:Nat) (r:P3),(rs.filter (jn J (g+64)))[i]?=some r->((rs.filter (jn J (g+64))).getD i (0,0,0)).2.2=r.2.2:=fun i r e=>by rw[qAj,e];rfl
   refine⟨D,_,fun i=>((rs.filter (jn J (g+64))).getD i (0,0,0)).2.2,rfl,aV.of hd,by rw[qAa,aF.len];exact pos,fun i v hv=>?_,fun i v hv best=>?_⟩
   .obtain⟨b,hb,rfl⟩:=at_of hv;obtain⟨r,hr,pr⟩:=aF.at hb;exact⟨b,r,rfl,pr,congrArg V.int (kfa i r hr).symm,rfl⟩
   .obtain⟨b,hb,rfl⟩:=at_of hv;obtain⟨r,hr,pr⟩:=aF.at hb;have mn:jW (rs.filter (jn J (g+64))) r:=⟨i,hr,fun j y hy=>by
     have z:=best j (by rw[qAa,aF.len];exact(List.getElem?_eq_some_iff.mp hy).1);dsimp only at z;rw[kfa i r hr,kfa j y hy] at z;exact z⟩
    obtain⟨m1,m2,m3⟩:=wL mn;have okr:=ok r m1;obtain⟨o1,o2,o3⟩:=okr.lt;have e2:=s2 _ _ e1;refine⟨_,rfl,.inl ⟨rfl,_,aV.of e2⟩,_,rfl,l,_,_,rfl,rfl,e2,by rw[qAa,a1.len];have:=uI J;exact aO (by lia),?_⟩;have t3:eO H2 (upd H2 l (.lst (cs.map V.ref++[V.ref b]))):=eO.lst e2;exists _,rfl,_,rfl,b,r,rfl,pr.keep t3,okr,_,_,rfl,rfl;refine⟨J ||| eV r,cs++[b],L++[r],some (.ref b),by rw[uH hJ okr m3];lia,uG hJ okr,fun h hh z=>?_,?_,by rw[qAo,uH hJ okr m3];show _+1+1=_;lia,(s1.trans s2).upd_ne' hl,by rw[aC,qBw];rfl,(a1.imp fun _ _ z=>(z.keep s2.t).keep t3).snoc (pr.keep t3),fun rest z=>?_,?_⟩
    .rw[jU hJ okr hh,qDs,qDs] at z;delta uS at m2;rw[qAv] at m2;rcases z with (z | z) | z
     .exact sub h hh z
     .rw[of_decide_eq_true z];exact m2.1
     .rw[of_decide_eq_true z];exact m2.2
    .rw[jU hJ okr #[1],w6];rfl
    .rw[qDy];exact run _ (.step ne mn z)
    .show [some (V.ref lr),some (V.int (g:Int)),some (V.int ((g+64:Nat):Int)),some (V.int (qCq (J:Int) (eV r:Int))),some (V.ref l),some (V.ref b)]=_;rw[KA hJ okr]
 .have e:J=g+64:=by
   refine qDb fun z=>hp ?_;show(!decide (V.int (J:Int)=V.int ((g+64:Nat):Int)))=true;rw[decide_eq_false fun q=>z (by have:=V.int.inj q;lia)];rfl
  subst e;have z:=run [] .stop;rw[qCl] at z;exact⟨_,rfl,k l cs L H1 hl s1 e1 a1 z⟩
def GX:Sp:=fun vs H Q _=>∃(p:Addr) (ns:List Int),vs=[.ref p]/\H p=some (.lst (ns.map V.int))/\(∀n∈ns,0<=n)/\ns.length<=64/\∀H',aJ H H'->Q .non H'
theorem Al:∀{ns:List Int},(∀n∈ns,0<=n)->(ns.map fun n=>decide (n<0)).any id=false
 | [],_=>rfl
 | n::r,h=>by
  have a:=h n (by simp);have i:=Al (ns:=r) fun x hx=>h x (qAs _ hx);show(decide (n<0)||(r.map fun n=>decide (n<0)).any id)=false
  rw[i,decide_eq_false (by lia)];rfl
theorem OB:aN ["costs"] ["costs"] (aH Jl):=#[1,2]
theorem KD(t:Tx K mg "check_costs" Jl ["costs"] f fd)(T:#[4])(D_check_numbers:#[1,1] 2 "check_numbers" ["things"] (wH K NL) f1 fd1):
  #[1,1] 3 "check_costs" ["costs"] GX f fd:=by
 refine t.GI OB (by rintro _ _ _ _⟨p,ns,rfl,_⟩;rfl) fun _ _ _ _ H vs Q E hr h=>?_;obtain⟨p,ns,rfl,hp,h0,hlen,k⟩:=h;refine⟨_,(aD (bQ (fA bD.toPass D_check_numbers hr #[1] #[0] (aA (pv 0) aB)))
  (aG (bN (cZ (aM (vO rfl) #[0] T.pT yO (aA (bP (NB:=["cost"]) (pick:=[none]) (bT #[7] (by exact trivial) rfl #[2] #[2] #[0] #[0]) rfl
    (bM (pv 0)) (fun _ _ _=>aK (i:=0) #[8,["cost"]] rfl cC)
    (fun _ _ _=>bX) (fun _ _ _=>(dD jM (pv 0) aE (aT _)))) aB))) (aG (eM bD rfl #[0] T.BE T.BF (aA aY aB))) aZ))),?_⟩
 refine⟨_,rfl,p,_,rfl,.inl hp,lR,by rw[qAa];lia,fun no=>(by rw[all_ints] at no;cases no),fun _ H1 s1=>?_⟩;have hp1:=s1 _ _ hp;exists _,rfl,p,rfl,⟨_,aV.of hp1⟩;refine cV (xs:=ns.map V.int) (fun _ x=>match x with | .int n=>some (.bl (decide (n<0))) | _=>none) (aV.of hp1) (by rw[qAa];exact qBb (aO (by lia))) (fun i x H2 kk kk0 s2 hx h1 h2=>?_) fun D H2 hD s2 hd=>?_
 .obtain⟨n,_,rfl⟩:=List.mem_map.mp (qAq hx);exact⟨_,rfl,_,_,rfl,rfl,h1 _ rfl _ (.refl _)⟩
 .have ed:H2 D=some (.lst ((ns.map fun n=>decide (n<0)).map V.bl)):=by
   rw[hd,cN,qDg,qBo,<- qEy];rfl
  exists D,_,rfl,aV.of ed,_,rfl;rw[Al h0];exact bK (k H2 (s1.trans s2))
def rD(NE:Addr)(H:Hp)(a ll lr:Addr)(cs:List Int)(rs:List P3):Prop:=∃(dx:Addr) (bs:List Addr),H a=some (.ins NE dx [("many",.int (cs.length:Int)),("costs",.ref ll),("ropes",.ref lr)])/\H ll=some (.lst (cs.map V.int))/\H lr=some (.lst (bs.map V.ref))/\A2 (dW H) bs rs/\1<=cs.length/\cs.length<=6/\Pw cs.length rs/\bs.length<=15
theorem rD.same(h:rD NE H a ll lr cs rs)(s:aJ H H'):rD NE H' a ll lr cs rs :=
 let ⟨dx,bs,h1,h2,h3,h4,h5⟩:=h;⟨dx,bs,s _ _ h1,s _ _ h2,s _ _ h3,h4.imp fun _ _ z=>z.keep s.t,h5⟩
theorem A2.GY(h:A2 (dW H) bs rs):bs.map (fun b=>(fX H b).2.2)=rs.map (·.2.2):=by
 induction h with
 | nil=>rfl
 | cons r _ ih=>rw[qBa,qBa,ih,r.of]
def KG(NE:Addr):Sp:=fun vs H Q _=>∃(x dx p q:Addr) (cs:List Int) (as:List Addr),vs=[.ref x,.ref p,.ref q]/\H x=some (.ins NE dx [])/\H p=some (.lst (cs.map V.int))/\1<=cs.length/\cs.length<=6/\(∀c∈cs,0<=c)/\H q=some (.lst (as.map V.ref))/\fD cs.length H as/\(∀a∈as,∀r,dW H a r->0<=r.2.2) /\
 ∀(l lr:Addr) (bs:List Addr) (rs:List P3) (H':Hp),H l=none->H lr=none->bs.Perm as->SameBut x H H'->A2 (dW H') bs rs->rD NE H' x l lr cs rs->lZ rs->Q .non H'
theorem Rl:aN ["self","costs","ropes"] ["self","costs","ropes"] (aH Mh):=#[1,2]
theorem OC(t:Mx K "__init__" "Net.__init__" Mh ["self","costs","ropes"] f fd)(T:#[4])(D_RI:#[1,0] 4 ["self","many"] (uC K NL) iR)(D_check_costs:#[1,1] 3 "check_costs" ["costs"] GX f1 fd1)(D_sorted_pairs:#[1,1] 4 "sorted_pairs" ["many","pairs"] (Ae K NL) f2 fd2)(D_cost_of:#[5] 1 "cost_of" ["rope"] Ak f3 fd3):
  #[1,0] 5 ["self","costs","ropes"] (KG NE) f:=by
 refine t.CQ Rl (by rintro _ _ _ _⟨x,dx,p,q,cs,as,rfl,_⟩;rfl) fun _ _ _ _ H vs Q E hr h=>?_;obtain⟨x,dx,p,q,cs,as,rfl,hx,hp,c1,c6,c0,hq,ok,r0,k⟩:=h;refine⟨_,(aD (bQ (rW bD.toPass #[0] T.DD T.Ms D_RI hr #[1] (aA (pv 0) (aA (aM aU #[0] T.cG bV (aA (pv 1) aB)) aB))))
  (aD (bQ (fA bD.toPass D_check_costs hr #[1] #[0] (aA (pv 1) aB)))
  (aD (gF (pv 0) (bW dF #[0] T.fK fU (aA (pv 1) aB)) rfl)
  (aD (gF (pv 0) (fA bD.toPass D_sorted_pairs hr #[1] #[0] (aA (cF (pv 0) rfl) (aA (pv 2) aB))) rfl)
  (aG (bQ (fA bD.toPass D_check_costs hr #[1] #[0] (aA (bP (NB:=["rope"]) (pick:=[none]) (bT #[7] (by exact trivial) rfl #[2] #[2] #[0] #[0]) rfl
    (bM (cF (pv 0) rfl)) (fun _ _ _=>aK (i:=0) #[8,["rope"]] rfl cC)
    (fun _ _ _=>bX) (fun _ _ _=>(bH D_cost_of hr #[1] #[0] (aA (pv 0) aB)))) aB)))))))),?_⟩
 have i16:mG 1 6 (.int (cs.length:Int))=true:=by rw[iI,decide_eq_true c1,decide_eq_true c6];rfl
 have hel:((cs.map V.int).length:Int)=(cs.length:Int):=by rw[qAa]
 refine⟨_,rfl,_,rfl,p,_,rfl,.inl (aV.of hp),x,NE,dx,.int (cs.length:Int),(by show [V.ref x,V.int ((cs.map V.int).length:Int)]=_;rw[hel]),hx,T.uQ.oc.cl,T.uQ.nm,.int _,fun no=>(by rw[i16] at no;cases no),fun _=>?_⟩;have sb1:SameBut x H (upd H x (.ins NE dx [("many",V.int (cs.length:Int))])):=((aJ.refl H).but x).jD _;have t1:eO H (upd H x (.ins NE dx [("many",V.int (cs.length:Int))])):=fun b xs e=>sb1 _ _ (fP e hx (fun z=>nomatch z)) e;have hp1:=sb1 _ _ (fP hp hx (fun z=>nomatch z)) hp;have hq1:=sb1 _ _ (fP hq hx (fun z=>nomatch z)) hq;have CB:fD cs.length (upd H x (.ins NE dx [("many",V.int (cs.length:Int))])) as:=ok.same fun b hb o e=>by
  obtain⟨u,v,n,e',_⟩:=ok.1 b hb;exact sb1 _ _ (fP e' hx (fun z=>nomatch z)) e
 have hx1:upd H x (.ins NE dx [("many",V.int (cs.length:Int))]) x=some (.ins NE dx [("many",V.int (cs.length:Int))]):=aC;generalize upd H x (.ins NE dx [("many",V.int (cs.length:Int))])=H1 at sb1 t1 hp1 hq1 CB hx1|-;refine⟨_,rfl,p,cs,rfl,hp1,c0,by lia,fun H2 s2=>?_⟩;refine⟨_,rfl,p,_,rfl,.inl (aV.of (s2 _ _ hp1)),fun l hl=>?_⟩;have u3:=aJ.aI (o:=.lst (cs.map V.int)) hl;have hx3:=u3 _ _ (s2 _ _ hx1);have nl:l≠x:=(bG (s2 _ _ hx1) hl).symm;have l0:H l=none:=by
  cases e:H l with
  | none=>rfl
  | some o=>have z:=s2 _ _ (sb1 _ _ nl e);rw[hl] at z;cases z
 refine⟨_,rfl,x,NE,dx,_,rfl,hx3,T.uQ.oc.cl,T.QH,(by show 1<1000;decide),?_⟩;have sb4:=((sb1.then (s2.trans u3)).jD (.ins NE dx [("many",V.int (cs.length:Int)),("costs",.ref l)]));have k4:upd (upd H2 l (.lst (cs.map V.int))) x (.ins NE dx [("many",V.int (cs.length:Int)),("costs",.ref l)]) l=some (.lst (cs.map V.int)):=by rw[aQ nl];exact aC
 have hx4:upd (upd H2 l (.lst (cs.map V.int))) x (.ins NE dx [("many",V.int (cs.length:Int)),("costs",.ref l)]) x=some (.ins NE dx [("many",V.int (cs.length:Int)),("costs",.ref l)]):=aC;show HY _ _ _ _ (upd (upd H2 l (.lst (cs.map V.int))) x (.ins NE dx [("many",V.int (cs.length:Int)),("costs",.ref l)]));generalize upd (upd H2 l (.lst (cs.map V.int))) x (.ins NE dx [("many",V.int (cs.length:Int)),("costs",.ref l)])=H4 at sb4 k4 hx4|-;have hq4:=sb4 _ _ (fP hq hx (fun z=>nomatch z)) hq;have Nm:fD cs.length H4 as:=ok.same fun b hb o e=>by
  obtain⟨u,v,n,e',_⟩:=ok.1 b hb;exact sb4 _ _ (fP e' hx (fun z=>nomatch z)) e
 refine⟨_,rfl,x,NE,dx,_,_,rfl,hx4,T.uQ.oc.cl,T.uQ.nm,rfl,_,rfl,(cs.length:Int),q,as,rfl,hq4,Nm.jJ,by have:=ok.2.2;lia,fun no H5 s5=>(by rw[Nm.ok] at no;cases no),fun _ lr bs H5 hlr hb hpw s5 e5=>?_⟩;have hx5:=s5 _ _ hx4;have nlr:lr≠x:=(bG hx4 hlr).symm;have lr0:H lr=none:=by
  cases e:H lr with
  | none=>rfl
  | some o=>have z:=sb4 _ _ nlr e;rw[hlr] at z;cases z
 refine⟨_,rfl,x,NE,dx,_,rfl,hx5,T.uQ.oc.cl,T.FH,(by show 2<1000;decide),?_⟩;have sb6:=((sb4.then s5).jD (.ins NE dx [("many",V.int (cs.length:Int)),("costs",.ref l),("ropes",.ref lr)]));have hx6:upd H5 x (.ins NE dx [("many",V.int (cs.length:Int)),("costs",.ref l),("ropes",.ref lr)]) x=some (.ins NE dx [("many",V.int (cs.length:Int)),("costs",.ref l),("ropes",.ref lr)]):=aC;have t46:eO H4 (upd H5 x (.ins NE dx [("many",V.int (cs.length:Int)),("costs",.ref l),("ropes",.ref lr)])):=fun b xs e=>by rw[aQ (fP (s5 _ _ e) hx5 (fun z=>nomatch z))];exact s5 _ _ e
 have e6:upd H5 x (.ins NE dx [("many",V.int (cs.length:Int)),("costs",.ref l),("ropes",.ref lr)]) lr=some (.lst (bs.map V.ref)):=by rw[aQ nlr];exact e5
 have k6:upd H5 x (.ins NE dx [("many",V.int (cs.length:Int)),("costs",.ref l),("ropes",.ref lr)]) l=some (.lst (cs.map V.int)):=by rw[aQ nl];exact s5 _ _ k4
 have Pz:fD cs.length (upd H5 x (.ins NE dx [("many",V.int (cs.length:Int)),("costs",.ref l),("ropes",.ref lr)])) bs:=(ok.same fun b hb o e=>by
  obtain⟨u,v,n,e',_⟩:=ok.1 b hb;exact sb6 _ _ (fP e' hx (fun z=>nomatch z)) e).Ah hb
 exists _,rfl,x,NE,dx,_,_,rfl,hx6,T.uQ.oc.cl,T.FH,rfl,lr,rfl,⟨_,aV.of e6⟩;obtain⟨rs,a6,pw⟩:=Pz.pw;have blen:bs.length<=15:=Pz.2.2;have r06:∀r∈rs,0<=r.2.2:=fun r hr=>by
  obtain⟨b,hb',pr⟩:=a6.mem.2 r hr;have hba:=hb.mem_iff.mp hb';obtain⟨u,v,n,e',_⟩:=ok.1 b hba;have pr':dW _ b (u,v,n):=sb6 _ _ (fP e' hx (fun z=>nomatch z)) e';have z:=pr.eq pr';rw[z];exact r0 b hba (u,v,n) e'
 rw[show jH ("ropes":Str) (V.ref lr) [(("many":Str),V.int (cs.length:Int)),(("costs":Str),V.ref l)]=[(("many":Str),V.int (cs.length:Int)),(("costs":Str),V.ref l),(("ropes":Str),V.ref lr)] from rfl];generalize upd H5 x (.ins NE dx [("many",V.int (cs.length:Int)),("costs",.ref l),("ropes",.ref lr)])=H6 at sb6 hx6 e6 k6 a6 t46|-;refine cV (xs:=bs.map V.ref) (fun _ x=>match x with | .ref b=>some (.int (fX H6 b).2.2) | _=>none) (aV.of e6) (by rw[qAa];exact qBb (aO (by lia))) (fun i y H7 kk kk0 s7 hy h1 h2=>?_) fun D H7 hD s7 hd=>?_
 .obtain⟨b,hb',rfl⟩:=at_of hy;obtain⟨r,hr',pr⟩:=a6.at hb';exact⟨_,rfl,b,r,rfl,pr.keep s7.t,h1 _ (by show some (V.int (fX H6 b).2.2)=_;rw[pr.of]) _ (.refl _)⟩
 .have ed:H7 D=some (.lst ((rs.map (·.2.2)).map V.int)):=by
   rw[hd,cN,qDg,<- a6.GY,qBo,<- qEy];rfl
  refine⟨D,_,rfl,ed,fun n hn=>?_,by rw[qAa,<- a6.len];lia,fun H8 s8=>?_⟩
  .obtain⟨r,hr',rfl⟩:=List.mem_map.mp hn;exact r06 r hr'
  .have s68:=s7.trans s8;have nx:∀b:Addr,True:=fun _=>trivial;exact k l lr bs rs H8 l0 lr0 hb (sb6.then s68) (a6.imp fun _ _ z=>z.keep s68.t) ⟨dx,bs,s68 _ _ hx6,s68 _ _ k6,s68 _ _ e6,a6.imp fun _ _ z=>z.keep s68.t,c1,c6,pw,blen⟩ (a6.qI (Kr t46 (fun a ha=>let ⟨u,v,n,e,_⟩:=Nm.1 a (hb.mem_iff.mp ha);⟨_,e⟩) hpw))
theorem A2.of_get:∀{as:List Addr}{xs:List α},as.length=xs.length->(∀(i:Nat) (a:Addr) (x:α),as[i]?=some a->xs[i]?=some x->R a x)->A2 R as xs
 | [],[],_,_=>.nil
 | [],_::_,h,_=>by cases h
 | _::_,[],h,_=>by cases h
 | a::as,x::xs,h,f=>.cons (f 0 a x rfl rfl) (A2.of_get (Nat.succ.inj h) fun i b y e1 e2=>f (i+1) b y (by rw[qEt];exact e1) (by rw[qEt];exact e2))
theorem A2.app(h:A2 R as xs)(h':A2 R bs ys):A2 R (as++bs) (xs++ys):=by
 induction h with
 | nil=>exact h'
 | cons r _ ih=>exact .cons r ih
def wQ(cs:List Int):List P3:=(qAh cs.length).map fun i=>(i,i,cs.getD i 0)
def allR(cs:List Int)(rs:List P3):List P3:=wQ cs++rs
theorem sQ{β:Type}{S:Addr->β->Prop}{f:Nat->β}{ys:List V}{n:Nat}(hy:ys.length=n)(h:∀i y,ys[i]?=some y->∃b,y = .ref b/\S b (f i)):∃ws:List Addr,ys=ws.map V.ref/\A2 S ws ((qAh n).map f):=by
 refine⟨ys.map fun y=>match y with | .ref b=>b | _=>0,?_,A2.of_get (by rw[qAa,qAa,qBg,hy]) fun i a x e1 e2=>?_⟩
 .rw[qBo];refine(qOk ys).symm.trans (qDa fun y hm=>?_);obtain⟨i,hi⟩:=qIg hm;obtain⟨b,rfl,_⟩:=h i y hi;rfl
 .rw[qAf] at e1 e2;cases ey:ys[i]? with
  | none=>rw[ey] at e1;cases e1
  | some y =>
   rw[ey] at e1;obtain⟨b,rfl,pb⟩:=h i y ey;have e1:b=a:=Option.some.inj e1;have hi:i<n:=by rw[<- hy];exact(List.getElem?_eq_some_iff.mp ey).1
   rw[qDx hi] at e2;have e2:f i=x:=Option.some.inj e2;rw[<- e1,<- e2];exact pb
theorem KH(hg:g<2^m)(hb:aW g h=true):h<m:=by
 refine qDb fun z=>?_;have z2:g<2^h:=qAr hg (qBt #[1] (by lia));have:g/2^h=0:=qJo z2;delta aW at hb;rw[this] at hb;exact absurd (of_decide_eq_true hb) #[1]
theorem iW(h6:cs.length<=6)(pw:Pw cs.length rs):∀r∈allR cs rs,dU r:=fun r hr=>by
 rcases List.mem_append.mp hr with z | z
 .obtain⟨i,hi,rfl⟩:=List.mem_map.mp z;have:=List.mem_range.mp hi;exact⟨qAl _,by show i<6;lia⟩
 .obtain⟨a,b⟩:=pw.1 r z;exact⟨qBb a,by lia⟩
theorem DU(hg:g<2^cs.length):∀h,h<6->aW g h=true->∃r∈allR cs rs,r.1=h/\r.2.1=h:=fun h _ hb =>
 ⟨(h,h,cs.getD h 0),qEb _ (List.mem_map.mpr ⟨h,List.mem_range.mpr (KH hg hb),rfl⟩),rfl,rfl⟩
def DV(NE:Addr):Sp:=fun vs H Q _=>∃(a ll lr:Addr) (cs:List Int) (rs:List P3) (g:Nat),vs=[.ref a,.int (g:Int)]/\rD NE H a ll lr cs rs/\g<2^cs.length /\
 ∀(l:Addr) (ds:List Addr) (L:List P3) (H':Hp),H l=none->aJ H H'->H' l=some (.lst (ds.map V.ref))->A2 (dW H') ds L->Run (allR cs rs) (g+64) 64 L->Q (.ref l) H'
theorem GZ:aN ["self","group","to_the_well"] ["self","group"] (aH BA):=#[1,2]
theorem KI{f1:Addr}{fd1:qCi}(t:Mx K "least" "Net.least" BA ["self","group"] f fd)(T:#[4])(D_least_net:#[5] 3 "least_net" ["ropes","group"] GW f1 fd1):#[1,0] 4 ["self","group"] (DV NE) f:=by
 refine t.tQ GZ (by rintro _ _ _ _⟨a,ll,lr,cs,rs,g,rfl,_⟩;rfl) fun _ _ _ _ H vs Q E hr h=>?_;obtain⟨a,ll,lr,cs,rs,g,rfl,no,hg,k⟩:=h;refine⟨_,(aD (lJ (NB:=["hand","cost"]) (pick:=[none,none]) (i:=2) GZ.nd rfl cC #[0] (bT #[7] (by exact trivial) rfl #[2] #[2] #[0] #[0]) rfl
    (oK #[0] T.jE (aA (cF (pv 0) rfl) aB)) (fun _ _ _=>(show PG _ _ (qO K 2 (dX (bC 0) (dX (bC 1) qN))) from eL rfl (bA (aK (i:=0) #[8,["hand","cost"]] rfl cC) (bA (aK (i:=1) #[8,["hand","cost"]] rfl cC) dC))))
    (fun _ _ _=>bX) (fun _ _ _=>(cJ (aA (pv 0) (aA (pv 0) (aA (pv 1) aB))))))
  (aG (aS (bH D_least_net hr #[1] #[0] (aA (aL cX (pv 2) (cF (pv 0) rfl)) (aA (pv 1) aB)))))),?_⟩
 obtain⟨dx,bs,h1,h2,h3,h4,c1,c6,pw,blen⟩:=no;exists _,rfl,a,NE,dx,_,_,rfl,h1,T.uQ.oc.cl,T.QH,rfl,ll,rfl,⟨_,aV.of h2⟩;refine yW (xs:=cs.map V.int) (fun σ'=>∃o0 o1:Option V,σ'=[o0,o1]) (fun i y H=>∃b,y = .ref b/\dW H b (i,i,cs.getD i 0)) (by rintro i y H H' st ⟨b,e,q⟩;exact ⟨b,e,q.keep st⟩) ⟨_,_,rfl⟩ (aV.of h2) (by rw[qAa];exact qBb (aO (by lia))) (fun i x tt σ1 H2 kk kk0 hσ s2 hx ht h1'=>?_) fun D ys H2 hD s2 hy hys hd=>?_
 .obtain⟨o0,o1,rfl⟩:=hσ;have ex:x = .int (cs.getD i 0):=by
   rw[qAf] at hx;cases e:cs[i]? with
   | none=>rw[e] at hx;cases hx
   | some c =>
    rw[e] at hx;rw[qAj,e];exact(Option.some.inj hx).symm
  subst ex;exists tt,_,rfl,cQ.of ht,rfl,_,_,rfl,_,_,rfl,rfl;exact⟨_,rfl,_,rfl,_,rfl,Cb,fun t3 ht3=>h1' _ _ _ ⟨_,_,rfl⟩ (.aI ht3) ⟨t3,rfl,aC⟩⟩
 .obtain⟨ws,rfl,aw⟩:=sQ (S:=dW H2) (f:=fun i=>(i,i,cs.getD i 0)) hy hys;have h12:=s2 _ _ h1;have h32:=s2 _ _ h3;have wl:ws.length=cs.length:=by rw[aw.len,qAa,qBg,qAa]
  refine⟨_,rfl,_,rfl,a,NE,dx,_,_,rfl,h12,T.uQ.oc.cl,T.FH,rfl,D,lr,_,_,rfl,rfl,aV.of hd,aV.of h32,by rw[qAa,qAa];exact qBb (aO (by lia)),fun lc hlc=>?_⟩;have u3:=aJ.aI (o:=.lst (ws.map V.ref++bs.map V.ref)) hlc;have s3:=s2.trans u3;rw[qAa] at aw;refine⟨_,rfl,lc,ws++bs,allR cs rs,g,rfl,by rw[aC,qBw],A2.app (aw.imp fun _ _ z=>z.keep u3.t) (h4.imp fun _ _ z=>z.keep s3.t),iW c6 pw,DU hg,qAr hg (qBt (n:=2) #[1] c6),by rw[qAo];lia,fun l ds L H' hl s4 e4 a4 run=>?_⟩;exact k l ds L H' (s3.free hl) (s3.trans s4) e4 a4 run
open Classical in
noncomputable def netL (rs:List P3) (g:Nat):List P3:=if h:∃L,Run rs (g+64) 64 L then Classical.choose h else []
theorem oR(h:Run rs (g+64) 64 L):netL rs g=L:=by
 have e:∃L,Run rs (g+64) 64 L:=⟨L,h⟩;delta netL;rw[dif_pos e];exact(Classical.choose_spec e).uniq h
noncomputable def gainN (cs:List Int) (rs:List P3) (g:Nat):Int:=-(((netL (allR cs rs) g).map (·.2.2)).sum)
def DW(NE:Addr):Sp:=fun vs H Q _=>∃(a ll lr:Addr) (cs:List Int) (rs:List P3) (g:Nat),vs=[.ref a,.int (g:Int)]/\rD NE H a ll lr cs rs/\g<2^cs.length/\∀H',aJ H H'->Q (.int (gainN cs rs g)) H'
theorem OD:aN ["self","group"] ["self","group"] (aH BB):=#[1,2]
theorem KJ(t:Mx K "reckon" "Net.reckon" BB ["self","group"] f fd)(T:#[4])(DL:#[1,0] 4 ["self","group"] (DV NE) fL)(D_cost_of:#[5] 1 "cost_of" ["rope"] Ak f3 fd3):#[1,0] 5 ["self","group"] (DW NE) f:=by
 refine t.tQ OD (by rintro _ _ _ _⟨a,ll,lr,cs,rs,g,rfl,_⟩;rfl) fun _ _ _ _ H vs Q E hr h=>?_;obtain⟨a,ll,lr,cs,rs,g,rfl,no,hg,k⟩:=h;refine⟨_,(aG (aS (MG Ih (aM (fB rfl) #[0] T.hX iE (aA (bP (NB:=["rope"]) (pick:=[none]) (bT #[7] (by exact trivial) rfl #[2] #[2] #[0] #[0]) rfl
    (bM (jP (k:=4) bY (pv 0) hr #[1] (aA (pv 1) aB))) (fun _ _ _=>aK (i:=0) #[8,["rope"]] rfl cC)
    (fun _ _ _=>bX) (fun _ _ _=>(bH D_cost_of hr #[1] #[0] (aA (pv 0) aB)))) aB))))),?_⟩
 have no':=no;obtain⟨dx,bs,h1,h2,h3,h4,c1,c6,pw,blen⟩:=no';refine⟨_,rfl,a,NE,dx,_,fL,_,rfl,h1,rfl,T.uQ.oc.cl,T.RS,⟨_,DL⟩,_,rfl,a,ll,lr,cs,rs,g,rfl,no,hg,fun l ds L H1 hl s1 e1 a1 run=>⟨l,rfl,⟨_,aV.of e1⟩,?_⟩⟩;have hg6:g<64:=qAr hg (qBt (n:=2) #[1] c6);have Ll:L.length<=6:=by
  rw[(gK (iW c6 pw) hg6 run).2.2.1];exact t8 g 6
 refine cV (xs:=ds.map V.ref) (fun _ x=>match x with | .ref b=>some (.int (fX H1 b).2.2) | _=>none) (aV.of e1) (by rw[qAa,a1.len];exact qBb (aO (by lia))) (fun i y H7 kk kk0 s7 hy h1 h2=>?_) fun D H7 hD s7 hd=>?_
 .obtain⟨b,hb',rfl⟩:=at_of hy;obtain⟨r,hr',pr⟩:=a1.at hb';exact⟨_,rfl,b,r,rfl,pr.keep s7.t,h1 _ (by show some (V.int (fX H1 b).2.2)=_;rw[pr.of]) _ (.refl _)⟩
 .have ed:H7 D=some (.lst ((L.map (·.2.2)).map V.int)):=by
   rw[hd,cN,qDg,<- a1.GY,qBo,<- qEy];rfl
  exists D,_,rfl,.inl (aV.of ed),_,rfl;have z:=k H7 (s1.trans s7);unfold gainN at z;rw[oR run] at z;exact z
theorem Ga(D:#[1,0] 5 ["self","group"] (DW NE) rN)(c:RC K fE fH RU NE rN){H:Hp}{a ll lr:Addr}{cs:List Int}{rs:List P3}(h:rD NE H a ll lr cs rs):nB P w K mg base fE fH RU H a cs.length (gainN cs rs):=by
 have h':=h;obtain⟨dx,bs,h1,h2,h3,h4,c1,c6,pw,blen⟩:=h';exact⟨NE,dx,rN,_,h1,c,rfl,c1,c6,⟨rfl,rfl,rfl⟩,_,(D.up #[1]).imp (by rintro vs H2 Q _ ⟨gr,e,hg,s,q⟩;exact ⟨a,ll,lr,cs,rs,gr,e,h.same s,hg,fun H3 s3=>q H3 s3⟩)⟩
def gM(p:Nat×Nat):Nat:=7*p.1+p.2
def wU(H:Hp)(b:Addr):Nat×Nat:=match H b with
 | some (.tup [.int u,.int v])=>(u.toNat,v.toNat)
 | _=>(0,0)
theorem uR.of(h:uR H b p):wU H b=p:=by
 delta wU;rw[show H b=some (.tup [.int (p.1:Int),.int (p.2:Int)]) from h];rfl
theorem DX(hp:p.2<7)(hq:q.2<7):HT.lexLt [(p.1:Int),(p.2:Int)] [(q.1:Int),(q.2:Int)]=decide (gM p<gM q):=by
 delta gM;rw[HT.gG];by_cases e:(p.1:Int)=q.1
 .rw[if_pos e,HT.gG];by_cases e2:(p.2:Int)=q.2
  .rw[if_pos e2];exact(decide_eq_false (by lia)).symm
  .rw[if_neg e2];exact decide_eq_decide.mpr (by lia)
 .rw[if_neg e];exact decide_eq_decide.mpr (by lia)
theorem A2.iX(h:A2 (uR H) bs ps):bs.map (wU H)=ps:=by
 induction h with
 | nil=>rfl
 | cons r _ ih=>rw[qBa,ih,r.of]
def qJ(L:List P3):List (Nat×Nat):=L.map fun r=>(r.1,r.2.1)
theorem A2.self{S:Addr->Nat×Nat->Prop}{f:Addr->Nat×Nat}:∀{bs:List Addr},(∀b∈bs,S b (f b))->A2 S bs (bs.map f)
 | [],_=>.nil
 | b::bs,h=>.cons (h b (by simp)) (A2.self fun c hc=>h c (qAs _ hc))
theorem BQ(L:List P3):(qAh L.length).map (fun i=>(qJ L).getD i (0,0))=qJ L:=by
 refine qMm fun i=>?_;rcases qBj i L.length with h | h
 .rw[qAf,qDx h];show some ((qJ L).getD i (0,0))=_;rw[qAj];delta qJ;rw[qAf,qAc h];rfl
 .rw[qCu (by rw[qAa,qBg];exact h),qCu (by delta qJ;rw[qAa];exact h)]
def Ho(K:qAb)(NG NE:Addr):Sp:=fun vs H Q E=>∃(a ll lr:Addr) (cs:List Int) (rs:List P3) (v:V),vs=[.ref a,v]/\rD NE H a ll lr cs rs/\Pl K H v/\(mG 0 (2^cs.length-1) v=false->∀H',aJ H H'->E (.ref NG) none H') /\
 ∀g:Nat,v = .int (g:Int)->g<2^cs.length->∀(l:Addr) (ds:List Addr) (iX:List (Nat×Nat)) (L:List P3) (H':Hp),H l=none->aJ H H'->H' l=some (.lst (ds.map V.ref))->A2 (uR H') ds iX->iX.Perm (qJ L)->(iX.map gM).Pairwise (· < ·)->Run (allR cs rs) (g+64) 64 L->Q (.ref l) H'
theorem OE:aN ["self","group"] ["self","group"] (aH BC):=#[1,2]
theorem KL{f1:Addr}{fd1:qCi}(t:Mx K "net" "Net.net" BC ["self","group"] f fd)(T:#[4])(DL:#[1,0] 4 ["self","group"] (DV NE) fL)(D_check_group:#[1,1] 3 "check_group" ["group","many"] (wG K NG) f1 fd1):#[1,0] 5 ["self","group"] (Ho K NG NE) f:=by
 refine t.CQ OE (by rintro _ _ _ _⟨a,ll,lr,cs,rs,v,rfl,_⟩;rfl) fun _ _ _ _ H vs Q E hr h=>?_;obtain⟨a,ll,lr,cs,rs,v,rfl,no,pl,k0,k⟩:=h;refine⟨_,(aD (bQ (fA bD.toPass D_check_group hr #[1] #[0] (aA (pv 1) (aA (cF (pv 0) rfl) aB))))
  (aG (aS (aM qW #[0] T.iU sC (aA (bP (NB:=["rope"]) (pick:=[none]) (bT #[7] (by exact trivial) rfl #[2] #[2] #[0] #[0]) rfl
    (bM (jP (k:=4) bD.toPass (pv 0) hr #[1] (aA (pv 1) aB))) (fun _ _ _=>aK (i:=0) #[8,["rope"]] rfl cC)
    (fun _ _ _=>bX) (fun _ _ _=>(cJ (aA (aX (gQ K) (pv 0) aE #[6]) (aA (aX (gQ K) (pv 0) aE #[6]) aB))))) aB))))),?_⟩
 have no':=no;obtain⟨dx,bs,h1,h2,h3,h4,c1,c6,pw,blen⟩:=no';refine⟨_,rfl,_,rfl,a,NE,dx,_,_,rfl,h1,T.uQ.oc.cl,T.uQ.nm,rfl,v,cs.length,rfl,c6,pl,k0,fun yes H1 s1=>?_⟩;obtain⟨g,rfl,hg⟩:=lQ yes;refine⟨_,rfl,a,NE,dx,_,fL,_,rfl,s1 _ _ h1,rfl,T.uQ.oc.cl,T.RS,⟨_,DL⟩,_,rfl,a,ll,lr,cs,rs,g,rfl,no.same s1,hg,fun l ds L H2 hl s2 e2 a2 run=>⟨l,rfl,⟨_,aV.of e2⟩,?_⟩⟩;have hg6:g<64:=qAr hg (qBt (n:=2) #[1] c6);obtain⟨n1,n2,n3,_⟩:=gK (iW c6 pw) hg6 run;have Ll:L.length<=6:=by
  rw[n3];exact t8 g 6
 refine rX (xs:=ds.map V.ref) (fun i y H=>∃b,y = .ref b/\uR H b ((qJ L).getD i (0,0))) (by rintro i y H H' st ⟨b,e,q⟩;exact ⟨b,e,q.keep st⟩) (aV.of e2) (by rw[qAa,a2.len];exact qBb (aO (by lia))) (fun i y H3 kk kk0 s3 hy h1'=>?_) fun D ys H3 hD s3 hyl hys hd=>?_
 .obtain⟨b,hb',rfl⟩:=at_of hy;obtain⟨r,hr',pr⟩:=a2.at hb';have pr3:H3 b=some (.tup [.int (r.1:Int),.int (r.2.1:Int),.int r.2.2]):=pr.keep s3.t;have eg:(qJ L).getD i (0,0)=(r.1,r.2.1):=by unfold qJ;rw[qAj,qAf,hr'];rfl
  exact⟨_,rfl,b,_,_,_,rfl,rfl,cQ.of pr3,rfl,_,rfl,b,_,_,_,rfl,rfl,cQ.of pr3,rfl,kY,fun t3 ht3=>h1' _ _ (.aI ht3) ⟨t3,rfl,by rw[eg];exact aC⟩⟩
 .obtain⟨ws,rfl,aw⟩:=sQ (S:=uR H3) (f:=fun i=>(qJ L).getD i (0,0)) (n:=L.length) (by rw[hyl,qAa,a2.len]) hys;rw[BQ] at aw;have kl:(qJ L).length=L.length:=by unfold qJ;rw[qAa]
  have b7:∀p∈qJ L,p.2<7:=fun p hp=>by
   obtain⟨r,hr',rfl⟩:=List.mem_map.mp hp;have z:=(iW c6 pw r (n1 r hr').1).2;show r.2.1<7;lia
  have ep:=aw.iX;refine⟨D,ws,fun b=>gM (wU H3 b),rfl,aV.of hd,fun b hb=>?_,by rw[aw.len,kl];exact Ll,fun b hb b' hb'=>?_,?_,fun l2 bs2 hl2 hp hpw=>?_⟩
  .obtain⟨p,_,hp⟩:=aw.mem.1 b hb;exact⟨(p.1:Int),[(p.2:Int)],hp⟩
  .obtain⟨p,mp,hp⟩:=aw.mem.1 b hb;obtain⟨p',mp',hp'⟩:=aw.mem.1 b' hb';rw[fV (ns:=[(p.1:Int),(p.2:Int)]) hp,fV (ns:=[(p'.1:Int),(p'.2:Int)]) hp',DX (b7 p mp) (b7 p' mp')];show _=decide (gM (wU H3 b)<gM (wU H3 b'));rw[hp.of,hp'.of]
  .have e:(ws.map fun b=>gM (wU H3 b))=(qJ L).map gM:=by rw[<- ep,qBo];rfl
   rw[e];refine List.pairwise_map.mpr ((show(qJ L).Nodup from n2).imp_of_mem fun {p q} hp hq ne z=>ne ?_);have x1:=b7 p hp;have x2:=b7 q hq;unfold gM at z;exact Prod.ext (by lia) (by lia)
  .have u4:=aJ.aI (o:=.lst (bs2.map V.ref)) hl2;have s14:=(s1.trans (s2.trans s3)).trans u4;refine k g rfl hg l2 bs2 (bs2.map (wU H3)) L _ ((s1.trans (s2.trans s3)).free hl2) s14 aC (A2.self fun b hb=>?_) ?_ ?_ run
   .obtain⟨p,_,hp'⟩:=aw.mem.1 b (hp.mem_iff.mp hb);rw[hp'.of];exact hp'.keep u4.t
   .rw[<- ep];exact hp.map _
   .rw[qBo];exact hpw
def pW(p:P3):Str:=Str.empty++nW (p.1:Int)++("-":Str)++nW (p.2.1:Int)++(":":Str)++nW p.2.2
theorem g8{n:Int}(h:n.natAbs<10^60):n.natAbs.log2<1920:=by
 by_cases z:n.natAbs=0
 .rw[z];decide +kernel
 .exact(qOo z).mpr (qFn h #[2])
theorem eY(h:i.natAbs<10^60):(nW i).length<=61:=by
 delta nW;cases i with
 | ofNat n =>
  have h:n<10^60:=h;exact qAx (qHu (v:=(n:Int)) (qDu n) (k:=60) #[1] (by exact_mod_cast h)) #[1]
 | negSucc n =>
  have h:n+1<10^60:=h;have z:=qHu (v:=((n+1:Nat):Int)) (qDu _) (k:=60) #[1] (by exact_mod_cast h);rw[qNy] at z|-;rw[show toString (qGp n)="-" ++ toString ((n+1:Nat):Int) from rfl,String.toList_append,qAo];exact qAx (qIl (show("-":String).toList.length<=1 by decide) z) #[1]
theorem uJ(h1:p.1<6)(h2:p.2.1<6)(h:p.2.2.natAbs<10^60):(pW p).length<=185:=by
 delta pW;rw[Str.length_append,Str.length_append,Str.length_append,Str.length_append,Str.length_append];have a:=eY (i:=(p.1:Int)) (qAr (show _<6 from h1) #[2]);have b:=eY (i:=(p.2.1:Int)) (qAr (show _<6 from h2) #[2]);have c:=eY h;have e0:Str.empty.length=0:=rfl;have e1:("-":Str).length=1:=rfl;have e2:(":":Str).length=1:=rfl;lia
def wW:Sp:=fun vs H Q _=>∃(p:Addr) (ns:List Int),vs=[.ref p]/\H p=some (.lst (ns.map V.int))/\ns.length<=64/\(∀n∈ns,n.natAbs<10^60)/\∀(D:Addr) (H':Hp),H D=none->aJ H H'->H' D=some (.lst ((ns.map nW).map V.str))->Q (.ref D) H'
theorem OF:aN ["numbers"] ["numbers"] (aH Jj):=#[1,2]
theorem KN(t:Tx K mg "number_words" Jj ["numbers"] f fd)(T:#[4]):#[5] 1 "number_words" ["numbers"] wW f fd:=by
 refine t.jI OF (by rintro _ _ _ _⟨p,ns,rfl,_⟩;rfl) fun _ _ _ _ H vs Q E hr h=>?_;obtain⟨p,ns,rfl,hp,h64,hn,k⟩:=h;refine⟨_,(aG (aS (bP (NB:=["number"]) (pick:=[none]) (bT #[7] (by exact trivial) rfl #[2] #[2] #[0] #[0]) rfl
    (bM (pv 0)) (fun _ _ _=>aK (i:=0) #[8,["number"]] rfl cC)
    (fun _ _ _=>bX) (fun _ _ _=>(bW iZ #[0] T.pU yP (aA (pv 0) aB)))))),?_⟩
 exists _,rfl,p,rfl,⟨_,aV.of hp⟩;refine cV (xs:=ns.map V.int) (fun _ x=>match x with | .int i=>some (.str (nW i)) | _=>none) (aV.of hp) (by rw[qAa];exact qBb (aO (by lia))) (fun i x H2 kk kk0 s2 hx g1 g2=>?_) fun D H2 hD s2 hd=>?_
 .obtain⟨n,hm,rfl⟩:=List.mem_map.mp (qAq hx);exact⟨_,rfl,n,rfl,g8 (hn n hm),g1 _ rfl _ (.refl _)⟩
 .refine k D H2 hD s2 ?_;rw[hd,cN,qDg,qBo];show some (HO.lst (ns.filterMap fun i=>some (V.str (nW i))))=_;rw[qBz];rfl
def Am:Sp:=fun vs H Q _=>∃(p:Addr) (bs:List Addr) (ps:List P3),vs=[.ref p]/\H p=some (.lst (bs.map V.ref))/\A2 (dW H) bs ps/\ps.length<=64/\(∀q∈ps,q.1<6/\q.2.1<6/\q.2.2.natAbs<10^60)/\∀(D:Addr) (H':Hp),H D=none->aJ H H'->H' D=some (.lst ((ps.map pW).map V.str))->Q (.ref D) H'
theorem A2.BR(h:A2 R bs ps):∀(i:Nat) (b:Addr),bs[i]?=some b->∃p,ps[i]?=some p/\R b p:=by
 induction h with
 | nil=>intro i b e;cases e
 | cons r _ ih =>
  intro i b e;cases i with
  | zero=>cases e;exact⟨_,rfl,r⟩
  | succ i=>exact ih i b e
theorem OG:aN ["pairs"] ["pairs"] (aH Jk):=#[1,2]
theorem KO(t:Tx K mg "pair_words" Jk ["pairs"] f fd)(T:#[4]):#[5] 1 "pair_words" ["pairs"] Am f fd:=by
 refine t.jI OG (by rintro _ _ _ _⟨p,bs,ps,rfl,_⟩;rfl) fun _ _ _ _ H vs Q E hr h=>?_;obtain⟨p,bs,ps,rfl,hp,a2,h64,hn,k⟩:=h;refine⟨_,(aG (aS (bP (NB:=["one","other","number"]) (pick:=[none,none,none]) (bT #[7] (by exact trivial) rfl #[2] #[2] #[0] #[0]) rfl
    (bM (pv 0)) (fun _ _ _=>(show PG _ _ (qO K 3 (dX (bC 0) (dX (bC 1) (dX (bC 2) qN)))) from eL rfl (bA (aK (i:=0) #[8,["one","other","number"]] rfl cC) (bA (aK (i:=1) #[8,["one","other","number"]] rfl cC) (bA (aK (i:=2) #[8,["one","other","number"]] rfl cC) dC)))))
    (fun _ _ _=>bX) (fun _ _ _=>(z9 (eG (nO (pv 0)) (eG aY (eG (nO (pv 1)) (eG aY (eG (nO (pv 2)) tV)))))))))),?_⟩
 exists _,rfl,p,rfl,⟨_,aV.of hp⟩;refine gJ (xs:=bs.map V.ref) (fun σ'=>∃o0 o1 o2:Option V,σ'=[o0,o1,o2]) (fun i _=>(ps[i]?).map fun q=>V.str (pW q)) ⟨_,_,_,rfl⟩ (aV.of hp) (by rw[qAa,a2.len];exact qBb (aO (by lia))) (fun i x σ1 H2 kk kk0 hσ s2 hx g1 g2=>?_) fun D H2 hD s2 hd=>?_
 .obtain⟨o0,o1,o2,rfl⟩:=hσ;rw[qAf] at hx;cases e:bs[i]? with
  | none=>rw[e] at hx;cases hx
  | some b =>
   rw[e] at hx;cases hx;obtain⟨q,hq,r⟩:=a2.BR i b e;obtain⟨q1,q2,q3⟩:=hn q (qAq hq);have l1:=eY (i:=(q.1:Int)) (qAr (show _<6 from q1) #[2]);have l2:=eY (i:=(q.2.1:Int)) (qAr (show _<6 from q2) #[2]);have l3:=eY q3;have pl:=uJ q1 q2 q3;have e0:Str.empty.length=0:=rfl;have e1:("-":Str).length=1:=rfl;have e2:(":":Str).length=1:=rfl;have sl:1000<=qAg:=by decide
   exists b,_,rfl,cQ.of (s2 _ _ r),rfl,_,_,rfl,_,_,rfl,_,_,rfl,rfl;have z1:=g8 (n:=(q.1:Int)) (qAr (show _<6 from q1) #[2]);have z2:=g8 (n:=(q.2.1:Int)) (qAr (show _<6 from q2) #[2]);refine⟨_,rfl,(q.1:Int),rfl,z1,nW q.1,rfl,(by rw[Str.length_append];lia),_,rfl,(by rw[Str.length_append,Str.length_append];lia),_,rfl,(q.2.1:Int),rfl,z2,nW q.2.1,rfl,(by rw[Str.length_append,Str.length_append,Str.length_append];lia),_,rfl,(by rw[Str.length_append,Str.length_append,Str.length_append,Str.length_append];lia),_,rfl,q.2.2,rfl,g8 q3,nW q.2.2,rfl,?_,?_,g1 _ _ ⟨_,_,_,rfl⟩ (by show(ps[i]?).map _=_;rw[hq];rfl) _ (.refl _)⟩
   .show(pW q).length<=_;lia
   .show(pW q).length<=_;lia
 .refine k D H2 hD s2 ?_;rw[hd];have e:(qAh (bs.map V.ref).length).filterMap (fun i=>((bs.map V.ref)[i]?).bind fun _=>(ps[i]?).map fun q=>V.str (pW q))=(qAh ps.length).filterMap fun i=>(ps[i]?).bind fun q=>some (V.str (pW q)):=by
   rw[qAa,a2.len];refine dY fun i hi=>?_;have hi':i<bs.length:=by rw[a2.len];exact List.mem_range.mp hi
   rw[qAf,qAc hi'];cases ps[i]? <;> rfl
  rw[e,cN,qBz,qBo];rfl
def uT(h:Str)(ss:List Str):Str:=Txt.join (" ":Str) (h::ss)
theorem mB:∀{ss:List Str},(∀s∈ss,s.length<=B)->(ss.map (·.length)).sum<=B*ss.length
 | [],_=>by simp
 | s::ss,h=>by
  have a:=h s qBn;have b:=mB fun t ht=>h t (qAs _ ht);rw[qBa,qCh,qAw,Nat.mul_succ];lia
theorem jF{h:Str}{ss:List Str}(h0:h.length<=185)(hl:ss.length<=200)(hs:∀s∈ss,s.length<=185):(((h::ss).map (·.length)).sum+(h::ss).length*(" ":Str).length<=16777216):=by
 have a:=mB hs;have e:(" ":Str).length=1:=rfl;rw[qBa,qCh,qAw,e,Nat.mul_one];have:=qMa 185 hl;lia
theorem fF(h1:a<=8)(h2:b<=128):a+b<=qAg:=qAx (qIl h1 h2) #[1]
theorem sR(h1:a<=64)(h2:b<=64):1+a+b<=qAg:=qAx (qIl (qIl (qAl 1) h1) h2) #[1]
def KP:Sp:=fun vs H Q _=>∃a:Addr,vs=[.ref a]/\Q (.str ("none":Str)) H
theorem Rm:aN ["self"] ["self"] (aH LV):=#[1,2]
theorem OH(t:Mx K "words" "Rule.words" LV ["self"] f fd):#[1,0] 1 ["self"] KP f:=by
 refine t.tQ Rm (by rintro _ _ _ _⟨a,rfl,_⟩;rfl) fun _ _ _ _ H vs Q E hr h=>?_;obtain⟨a,rfl,k⟩:=h;exact⟨_,(aG (aS aY)),k⟩
def DY(OW:Addr):Sp:=fun vs H Q _=>∃(a dx l:Addr) (m:V) (ns:List Int),vs=[.ref a]/\H a=some (.ins OW dx [("many",m),("numbers",.ref l)])/\H l=some (.lst (ns.map V.int))/\ns.length<=64/\(∀n∈ns,n.natAbs<10^60)/\∀H',aJ H H'->Q (.str (uT ("own":Str) (ns.map nW))) H'
theorem OJ:aN ["self"] ["self"] (aH Bv):=#[1,2]
theorem KQ{f1:Addr}{fd1:qCi}(t:Mx K "words" "Own.words" Bv ["self"] f fd)(T:#[4])(D_number_words:#[5] 1 "number_words" ["numbers"] wW f1 fd1):#[1,0] 2 ["self"] (DY OW) f:=by
 refine t.tQ OJ (by rintro _ _ _ _⟨a,dx,l,m,ns,rfl,_⟩;rfl) fun _ _ _ s H vs Q E hr h=>?_;obtain⟨a,dx,l,m,ns,rfl,ha,hl,h64,hn,k⟩:=h;refine⟨_,(aG (aS (eD qCc qDi qDh fW aY (aA (aL cX (bO (aA aY aB)) (bH D_number_words hr #[1] #[0] (aA (cF (pv 0) rfl) aB))) aB)))),?_⟩;refine⟨rfl,mH,fun l0 hl0=>?_⟩;have u0:=aJ.aI (o:=.lst [V.str ("own":Str)]) hl0;refine⟨_,rfl,a,OW,dx,_,_,rfl,u0 _ _ ha,T.JN.oc.cl,T.QC,rfl,l,ns,rfl,u0 _ _ hl,h64,hn,fun D H1 hD s1 h1=>?_⟩;have hb:∀s∈ns.map nW,s.length<=185:=fun s hs=>by
  obtain⟨n,hm,rfl⟩:=List.mem_map.mp hs;exact qAx (eY (hn n hm)) #[1]
 refine⟨l0,D,_,_,rfl,rfl,aV.of (s1 _ _ aC),aV.of h1,(by rw[qAa,qAa];exact fF #[1] (qAx h64 #[1])),fun p hp=>?_⟩;refine⟨_,p,("own":Str)::ns.map nW,rfl,rfl,aV.of aC,jF #[1] (by rw[qAa];lia) hb,k _ (u0.trans (s1.trans (.aI hp)))⟩
theorem p8{ns:List Int}(hn:∀n∈ns,n.natAbs<10^60):∀s∈ns.map nW,s.length<=185:=fun s hs=>by
 obtain⟨n,hm,rfl⟩:=List.mem_map.mp hs;exact qAx (eY (hn n hm)) #[1]
theorem qA{ps:List P3}(hn:∀q∈ps,q.1<6/\q.2.1<6/\q.2.2.natAbs<10^60):∀s∈ps.map pW,s.length<=185:=fun s hs=>by
 obtain⟨p,hm,rfl⟩:=List.mem_map.mp hs;obtain⟨a,b,c⟩:=hn p hm;exact uJ a b c
def KR(VO:Addr):Sp:=fun vs H Q _=>∃(a dx l:Addr) (m:V) (q z:Int) (ns:List Int),vs=[.ref a]/\H a=some (.ins VO dx [("many",m),("quota",.int q),("prize",.int z),("weights",.ref l)])/\H l=some (.lst (ns.map V.int))/\ns.length<=62/\(∀n∈q::z::ns,n.natAbs<10^60)/\∀H',aJ H H'->Q (.str (uT ("votes":Str) ((q::z::ns).map nW))) H'
theorem Rn:aN ["self"] ["self"] (aH Mc):=#[1,2]
theorem OK{f1:Addr}{fd1:qCi}(t:Mx K "words" "Votes.words" Mc ["self"] f fd)(T:#[4])(D_number_words:#[5] 1 "number_words" ["numbers"] wW f1 fd1):#[1,0] 2 ["self"] (KR VO) f:=by
 refine t.tQ Rn (by rintro _ _ _ _⟨a,dx,l,m,q,z,ns,rfl,_⟩;rfl) fun _ _ _ _ H vs Q E hr h=>?_;obtain⟨a,dx,l,m,q,z,ns,rfl,ha,hl,h64,hn,k⟩:=h;refine⟨_,(aG (aS (eD qCc qDi qDh fW aY (aA (aL cX (bO (aA aY aB)) (bH D_number_words hr #[1] #[0] (aA (aL cX (bO (aA (cF (pv 0) rfl) (aA (cF (pv 0) rfl) aB))) (cF (pv 0) rfl)) aB))) aB)))),?_⟩;refine⟨rfl,mH,fun l0 hl0=>?_⟩;have u0:=aJ.aI (o:=.lst [V.str ("votes":Str)]) hl0;refine⟨_,rfl,a,VO,dx,_,_,rfl,u0 _ _ ha,T.BD.oc.cl,T.QF,rfl,_,rfl,a,VO,dx,_,_,rfl,u0 _ _ ha,T.BD.oc.cl,T.JQ,rfl,kY,fun l1 hl1=>?_⟩;have u1:=u0.trans (aJ.aI (o:=.lst [V.int q,V.int z]) hl1);refine⟨_,rfl,a,VO,dx,_,_,rfl,u1 _ _ ha,T.BD.oc.cl,T.JR,rfl,l1,l,_,_,rfl,rfl,aV.of aC,aV.of (u1 _ _ hl),(by rw[qAa];exact fF (by show 2<=8;decide) (by lia)),fun l2 hl2=>?_⟩;have u2:=(aJ.aI (o:=.lst [V.int q,V.int z]) hl1).trans (aJ.aI (o:=.lst ([V.int q,V.int z]++ns.map V.int)) hl2);refine⟨l2,q::z::ns,rfl,aC,(by show ns.length+1+1<=64;lia),hn,fun D H1 hD s1 h1=>?_⟩;refine⟨l0,D,_,_,rfl,rfl,aV.of (s1 _ _ (u2 _ _ aC)),aV.of h1,(by rw[qAa,qAa];exact fF #[1] (by show ns.length+1+1<=128;lia)),fun p hp=>?_⟩;refine⟨_,p,("votes":Str)::(q::z::ns).map nW,rfl,rfl,aV.of aC,jF #[1] (by rw[qAa];show ns.length+1+1<=200;lia) (p8 hn),k _ (u0.trans (u2.trans (s1.trans (.aI hp))))⟩
def DZ(PL:Addr):Sp:=fun vs H Q _=>∃(a dx l:Addr) (m:V) (e:Int) (ns:List Int),vs=[.ref a]/\H a=some (.ins PL dx [("many",m),("earnings",.ref l)])/\H l=some (.lst ((e::ns).map V.int))/\ns.length<=64/\(∀n∈ns,n.natAbs<10^60)/\∀H',aJ H H'->Q (.str (uT ("table":Str) (ns.map nW))) H'
theorem OL:aN ["self"] ["self"] (aH Bw):=#[1,2]
theorem KS{f1:Addr}{fd1:qCi}(t:Mx K "words" "Plain.words" Bw ["self"] f fd)(T:#[4])(D_number_words:#[5] 1 "number_words" ["numbers"] wW f1 fd1):#[1,0] 2 ["self"] (DZ PL) f:=by
 refine t.tQ OL (by rintro _ _ _ _⟨a,dx,l,m,e,ns,rfl,_⟩;rfl) fun _ _ _ _ H vs Q E hr h=>?_;obtain⟨a,dx,l,m,e,ns,rfl,ha,hl,h64,hn,k⟩:=h;refine⟨_,(aG (aS (eD qCc qDi qDh fW aY (aA (aL cX (bO (aA aY aB)) (bH D_number_words hr #[1] #[0] (aA (dP gP (cF (pv 0) rfl) (eQ aE) eP) aB))) aB)))),?_⟩;refine⟨rfl,mH,fun l0 hl0=>?_⟩;have u0:=aJ.aI (o:=.lst [V.str ("table":Str)]) hl0;refine⟨_,rfl,a,PL,dx,_,_,rfl,u0 _ _ ha,T.JO.oc.cl,T.QD,rfl,1,rfl,l,_,rfl,aV.of (u0 _ _ hl),fun l2 hl2=>?_⟩;have ec:gH ((e::ns).map V.int) (some 1) none=ns.map V.int:=by
  have z:=kU ((e::ns).map V.int) 1;exact z
 rw[ec];have u2:=aJ.aI (o:=.lst (ns.map V.int)) hl2;refine⟨l2,ns,rfl,aC,h64,hn,fun D H1 hD s1 h1=>?_⟩;refine⟨l0,D,_,_,rfl,rfl,aV.of (s1 _ _ (u2 _ _ aC)),aV.of h1,(by rw[qAa,qAa];exact fF #[1] (qAx h64 #[1])),fun p hp=>?_⟩;refine⟨_,p,("table":Str)::ns.map nW,rfl,rfl,aV.of aC,jF #[1] (by rw[qAa];lia) (p8 hn),k _ (u0.trans (u2.trans (s1.trans (.aI hp))))⟩
def Ea(PA:Addr):Sp:=fun vs H Q _=>∃(a dx l:Addr) (m:V) (bs:List Addr) (ps:List P3),vs=[.ref a]/\H a=some (.ins PA dx [("many",m),("pairs",.ref l)])/\H l=some (.lst (bs.map V.ref))/\A2 (dW H) bs ps/\ps.length<=64/\(∀q∈ps,q.1<6/\q.2.1<6/\q.2.2.natAbs<10^60)/\∀H',aJ H H'->Q (.str (uT ("pairs":Str) (ps.map pW))) H'
theorem OM:aN ["self"] ["self"] (aH Bz):=#[1,2]
theorem KU{f1:Addr}{fd1:qCi}(t:Mx K "words" "Pairs.words" Bz ["self"] f fd)(T:#[4])(D_pair_words:#[5] 1 "pair_words" ["pairs"] Am f1 fd1):#[1,0] 2 ["self"] (Ea PA) f:=by
 refine t.tQ OM (by rintro _ _ _ _⟨a,dx,l,m,bs,ps,rfl,_⟩;rfl) fun _ _ _ _ H vs Q E hr h=>?_;obtain⟨a,dx,l,m,bs,ps,rfl,ha,hl,a2,h64,hn,k⟩:=h;refine⟨_,(aG (aS (eD qCc qDi qDh fW aY (aA (aL cX (bO (aA aY aB)) (bH D_pair_words hr #[1] #[0] (aA (cF (pv 0) rfl) aB))) aB)))),?_⟩;refine⟨rfl,mH,fun l0 hl0=>?_⟩;have u0:=aJ.aI (o:=.lst [V.str ("pairs":Str)]) hl0;refine⟨_,rfl,a,PA,dx,_,_,rfl,u0 _ _ ha,T.JP.oc.cl,T.QE,rfl,l,bs,ps,rfl,u0 _ _ hl,a2.imp fun _ _ z=>z.keep u0.t,h64,hn,fun D H1 hD s1 h1=>?_⟩;refine⟨l0,D,_,_,rfl,rfl,aV.of (s1 _ _ aC),aV.of h1,(by rw[qAa,qAa];exact fF #[1] (qAx h64 #[1])),fun p hp=>?_⟩;refine⟨_,p,("pairs":Str)::ps.map pW,rfl,rfl,aV.of aC,jF #[1] (by rw[qAa];lia) (qA hn),k _ (u0.trans (s1.trans (.aI hp)))⟩
def KW(MA:Addr):Sp:=fun vs H Q _=>∃(a dx l lb:Addr) (m:V) (bs:List Addr) (ps:List P3),vs=[.ref a]/\H a=some (.ins MA dx [("many",m),("pairs",.ref l),("best",.ref lb)])/\H l=some (.lst (bs.map V.ref))/\A2 (dW H) bs ps/\ps.length<=64/\(∀q∈ps,q.1<6/\q.2.1<6/\q.2.2.natAbs<10^60)/\∀H',aJ H H'->Q (.str (uT ("match":Str) (ps.map pW))) H'
theorem Ro:aN ["self"] ["self"] (aH Mg):=#[1,2]
theorem ON{f1:Addr}{fd1:qCi}(t:Mx K "words" "Match.words" Mg ["self"] f fd)(T:#[4])(D_pair_words:#[5] 1 "pair_words" ["pairs"] Am f1 fd1):#[1,0] 2 ["self"] (KW MA) f:=by
 refine t.tQ Ro (by rintro _ _ _ _⟨a,dx,l,lb,m,bs,ps,rfl,_⟩;rfl) fun _ _ _ _ H vs Q E hr h=>?_;obtain⟨a,dx,l,lb,m,bs,ps,rfl,ha,hl,a2,h64,hn,k⟩:=h;refine⟨_,(aG (aS (eD qCc qDi qDh fW aY (aA (aL cX (bO (aA aY aB)) (bH D_pair_words hr #[1] #[0] (aA (cF (pv 0) rfl) aB))) aB)))),?_⟩;refine⟨rfl,mH,fun l0 hl0=>?_⟩;have u0:=aJ.aI (o:=.lst [V.str ("match":Str)]) hl0;refine⟨_,rfl,a,MA,dx,_,_,rfl,u0 _ _ ha,T.FG.oc.cl,T.QG,rfl,l,bs,ps,rfl,u0 _ _ hl,a2.imp fun _ _ z=>z.keep u0.t,h64,hn,fun D H1 hD s1 h1=>?_⟩;refine⟨l0,D,_,_,rfl,rfl,aV.of (s1 _ _ aC),aV.of h1,(by rw[qAa,qAa];exact fF #[1] (qAx h64 #[1])),fun p hp=>?_⟩;refine⟨_,p,("match":Str)::ps.map pW,rfl,rfl,aV.of aC,jF #[1] (by rw[qAa];lia) (qA hn),k _ (u0.trans (s1.trans (.aI hp)))⟩
def KY(NE:Addr):Sp:=fun vs H Q _=>∃(a dx l lr:Addr) (m:V) (cs:List Int) (bs:List Addr) (ps:List P3),vs=[.ref a]/\H a=some (.ins NE dx [("many",m),("costs",.ref l),("ropes",.ref lr)])/\H l=some (.lst (cs.map V.int))/\H lr=some (.lst (bs.map V.ref))/\A2 (dW H) bs ps/\ps.length<=64/\cs.length<=64/\(∀n∈cs,n.natAbs<10^60)/\(∀q∈ps,q.1<6/\q.2.1<6/\q.2.2.natAbs<10^60)/\∀H',aJ H H'->Q (.str (uT ("net":Str) (cs.map nW++ps.map pW))) H'
theorem Rp:aN ["self"] ["self"] (aH Mi):=#[1,2]
theorem OO{f1 f2:Addr}{fd1 fd2:qCi}(t:Mx K "words" "Net.words" Mi ["self"] f fd)(T:#[4])(D_number_words:#[5] 1 "number_words" ["numbers"] wW f1 fd1)(D_pair_words:#[5] 1 "pair_words" ["pairs"] Am f2 fd2):#[1,0] 2 ["self"] (KY NE) f:=by
 refine t.tQ Rp (by rintro _ _ _ _⟨a,dx,l,lr,m,cs,bs,ps,rfl,_⟩;rfl) fun _ _ _ s H vs Q E hr h=>?_;obtain⟨a,dx,l,lr,m,cs,bs,ps,rfl,ha,hl,hlr,a2,h64,c64,hc,hn,k⟩:=h;refine⟨_,(aG (aS (eD qCc qDi qDh fW aY (aA (aL cX (aL cX (bO (aA aY aB)) (bH D_number_words hr #[1] #[0] (aA (cF (pv 0) rfl) aB))) (bH D_pair_words hr #[1] #[0] (aA (cF (pv 0) rfl) aB))) aB)))),?_⟩;refine⟨rfl,mH,fun l0 hl0=>?_⟩;have u0:=aJ.aI (o:=.lst [V.str ("net":Str)]) hl0;refine⟨_,rfl,a,NE,dx,_,_,rfl,u0 _ _ ha,T.uQ.oc.cl,T.QH,rfl,l,cs,rfl,u0 _ _ hl,c64,hc,fun D H1 hD s1 h1=>?_⟩;have u1:=u0.trans s1;refine⟨l0,D,_,_,rfl,rfl,aV.of (s1 _ _ aC),aV.of h1,(by rw[qAa,qAa];exact fF #[1] (qAx c64 #[1])),fun l2 hl2=>?_⟩;have u2:=u1.trans (aJ.aI (o:=.lst ([V.str ("net":Str)]++(cs.map nW).map V.str)) hl2);refine⟨_,rfl,a,NE,dx,_,_,rfl,u2 _ _ ha,T.uQ.oc.cl,T.FH,rfl,lr,bs,ps,rfl,u2 _ _ hlr,a2.imp fun _ _ z=>z.keep u2.t,h64,hn,fun D3 H3 hD3 s3 h3=>?_⟩;refine⟨l2,D3,_,_,rfl,rfl,aV.of (s3 _ _ aC),aV.of h3,(by rw[qAo,qAa,qAa,qAa,qAa];exact sR c64 h64),fun p hp=>?_⟩;refine⟨_,p,("net":Str)::(cs.map nW++ps.map pW),rfl,rfl,aV.of (by rw[aC,qBa,qBw];rfl),jF #[1] (by rw[qAo,qAa,qAa];lia) (fun s hs=>?_),k _ (u2.trans (s3.trans (.aI hp)))⟩;rcases List.mem_append.mp hs with h | h
 .exact p8 hc s h
 .exact qA hn s h
def kW(P:qBl)(w:qCr)(K:qAb)(mg:Str->Option qAi)(base:Heap)(H:Hp)(a:Addr)(tx:Str):Prop :=
 ∃(C dx g:Addr) (fs:List (Str×V)),H a=some (.ins C dx fs)/\fs.lookup ("words":Str)=none/\AO K C/\Meth K C "words" g /\
  ∃ps,Md P w K mg base 3 ps (fun vs H2 Q _=>vs=[.ref a]/\aJ H H2/\∀H3,aJ H2 H3->Q (.str tx) H3) g
theorem kW.same(r:kW P w K mg base H a tx)(s:aJ H H'):kW P w K mg base H' a tx:=by
 obtain⟨C,dx,g,fs,h1,h2,h3,h4,ps,h7⟩:=r;exact⟨C,dx,g,fs,s _ _ h1,h2,h3,h4,ps,h7.imp (by rintro vs H2 Q _ ⟨e,b,d⟩;exact ⟨e,s.trans b,d⟩)⟩
theorem KZ(T:#[4])(D:#[1,0] 1 ["self"] KP wR){H:Hp}{a dx:Addr}{m:V}(ha:H a=some (.ins RU dx [("many",m)])):kW P w K mg base H a ("none":Str) :=
 ⟨RU,dx,wR,_,ha,rfl,T.PB.oc.cl,T.Ss,_,(D.up #[1]).imp (by rintro vs H2 Q _ ⟨e,s,q⟩;exact ⟨a,e,q _ (.refl _)⟩)⟩
theorem OP(T:#[4])(D:#[1,0] 2 ["self"] (DY OW) wO){H:Hp}{a dx l:Addr}{m:V}{ns:List Int}(ha:H a=some (.ins OW dx [("many",m),("numbers",.ref l)]))(hl:H l=some (.lst (ns.map V.int)))(h64:ns.length<=64)(hn:∀n∈ns,n.natAbs<10^60):kW P w K mg base H a (uT ("own":Str) (ns.map nW)) :=
 ⟨OW,dx,wO,_,ha,rfl,T.JN.oc.cl,T.Su,_,(D.up #[1]).imp (by rintro vs H2 Q _ ⟨e,s,q⟩;exact ⟨a,dx,l,m,ns,e,s _ _ ha,s _ _ hl,h64,hn,q⟩)⟩
theorem Gb(T:#[4])(D:#[1,0] 2 ["self"] (KR VO) wV){H:Hp}{a dx l:Addr}{m:V}{q z:Int}{ns:List Int}(ha:H a=some (.ins VO dx [("many",m),("quota",.int q),("prize",.int z),("weights",.ref l)]))(hl:H l=some (.lst (ns.map V.int)))(h62:ns.length<=62)(hn:∀n∈q::z::ns,n.natAbs<10^60):kW P w K mg base H a (uT ("votes":Str) ((q::z::ns).map nW)) :=
 ⟨VO,dx,wV,_,ha,rfl,T.BD.oc.cl,T.Sx,_,(D.up #[1]).imp (by rintro vs H2 Q _ ⟨e,s,k⟩;exact ⟨a,dx,l,m,q,z,ns,e,s _ _ ha,s _ _ hl,h62,hn,k⟩)⟩
theorem Gd(T:#[4])(D:#[1,0] 2 ["self"] (DZ PL) wP){H:Hp}{a dx l:Addr}{m:V}{e0:Int}{ns:List Int}(ha:H a=some (.ins PL dx [("many",m),("earnings",.ref l)]))(hl:H l=some (.lst ((e0::ns).map V.int)))(h64:ns.length<=64)(hn:∀n∈ns,n.natAbs<10^60):kW P w K mg base H a (uT ("table":Str) (ns.map nW)) :=
 ⟨PL,dx,wP,_,ha,rfl,T.JO.oc.cl,T.Sv,_,(D.up #[1]).imp (by rintro vs H2 Q _ ⟨e,s,q⟩;exact ⟨a,dx,l,m,e0,ns,e,s _ _ ha,s _ _ hl,h64,hn,q⟩)⟩
theorem Ge(T:#[4])(D:#[1,0] 2 ["self"] (Ea PA) wA){H:Hp}{a dx l:Addr}{m:V}{bs:List Addr}{ps:List P3}(ha:H a=some (.ins PA dx [("many",m),("pairs",.ref l)]))(hl:H l=some (.lst (bs.map V.ref)))(a2:A2 (dW H) bs ps)(h64:ps.length<=64)(hn:∀q∈ps,q.1<6/\q.2.1<6/\q.2.2.natAbs<10^60):kW P w K mg base H a (uT ("pairs":Str) (ps.map pW)) :=
 ⟨PA,dx,wA,_,ha,rfl,T.JP.oc.cl,T.Sw,_,(D.up #[1]).imp (by rintro vs H2 Q _ ⟨e,s,q⟩;exact ⟨a,dx,l,m,bs,ps,e,s _ _ ha,s _ _ hl,a2.imp fun _ _ z=>z.keep s.t,h64,hn,q⟩)⟩
theorem Gf(T:#[4])(D:#[1,0] 2 ["self"] (KW MA) wM){H:Hp}{a dx l lb:Addr}{m:V}{bs:List Addr}{ps:List P3}(ha:H a=some (.ins MA dx [("many",m),("pairs",.ref l),("best",.ref lb)]))(hl:H l=some (.lst (bs.map V.ref)))(a2:A2 (dW H) bs ps)(h64:ps.length<=64)(hn:∀q∈ps,q.1<6/\q.2.1<6/\q.2.2.natAbs<10^60):kW P w K mg base H a (uT ("match":Str) (ps.map pW)) :=
 ⟨MA,dx,wM,_,ha,rfl,T.FG.oc.cl,T.Sy,_,(D.up #[1]).imp (by rintro vs H2 Q _ ⟨e,s,q⟩;exact ⟨a,dx,l,lb,m,bs,ps,e,s _ _ ha,s _ _ hl,a2.imp fun _ _ z=>z.keep s.t,h64,hn,q⟩)⟩
theorem OQ(T:#[4])(D:#[1,0] 2 ["self"] (KY NE) wN){H:Hp}{a dx l lr:Addr}{m:V}{cs:List Int}{bs:List Addr}{ps:List P3}(ha:H a=some (.ins NE dx [("many",m),("costs",.ref l),("ropes",.ref lr)]))(hl:H l=some (.lst (cs.map V.int)))(hr:H lr=some (.lst (bs.map V.ref)))(a2:A2 (dW H) bs ps)(h64:ps.length<=64)(c64:cs.length<=64)(hc:∀n∈cs,n.natAbs<10^60)(hn:∀q∈ps,q.1<6/\q.2.1<6/\q.2.2.natAbs<10^60):kW P w K mg base H a (uT ("net":Str) (cs.map nW++ps.map pW)) :=
 ⟨NE,dx,wN,_,ha,rfl,T.uQ.oc.cl,T.Sz,_,(D.up #[1]).imp (by rintro vs H2 Q _ ⟨e,s,q⟩;exact ⟨a,dx,l,lr,m,cs,bs,ps,e,s _ _ ha,s _ _ hl,s _ _ hr,a2.imp fun _ _ z=>z.keep s.t,h64,c64,hc,hn,q⟩)⟩
theorem fY(hq:H q=some o)(hx:H x=none)(hd:H dx=none):upd (upd H dx u) x v q=some o:=by
 rw[aQ (bG hq hx),aQ (bG hq hd)];exact hq
theorem hZ(ne:dx≠x)(hl:upd (upd H dx u) x v l=none):H l=none:=by
 have nl:l≠x:=fun z=>by rw[z,aC] at hl;cases hl
 have nd:l≠dx:=fun z=>by rw[z,aQ ne,aC] at hl;cases hl
 rw[aQ nl,aQ nd] at hl;exact hl
theorem A2.perm(p:bs.Perm as):∀{xs:List α},A2 R as xs->∃ys,A2 R bs ys/\ys.Perm xs:=by
 induction p with
 | nil=>intro xs h;exact⟨xs,h,.refl _⟩
 | cons b _ ih =>
  intro xs h;cases h with
  | cons r t =>
   obtain⟨ys,h1,h2⟩:=ih t;exact⟨_,.cons r h1,h2.cons _⟩
 | swap a b l =>
  intro xs h;cases h with
  | cons r t =>
   cases t with
   | cons r2 t2=>exact⟨_,.cons r2 (.cons r t2),.swap _ _ _⟩
 | trans _ _ ih1 ih2 =>
  intro xs h;obtain⟨ys,h1,h2⟩:=ih2 h;obtain⟨zs,h3,h4⟩:=ih1 h1;exact⟨zs,h3,h4.trans h2⟩
theorem A2.uniq(h:A2 (dW H) bs ps)(k:A2 (dW H) bs qs):ps=qs:=by
 induction h generalizing qs with
 | nil=>cases k;rfl
 | cons r _ ih =>
  cases k with
  | cons r2 t2=>rw[r.eq r2,ih t2]
theorem La{H:Hp}{q:Addr}{ns:List Int}{x dx:Addr}{R:VK}{E:XK}(hx:H x=none)(hd:H dx=none)(ne:dx≠x)(hq:H q=some (.lst (ns.map V.int)))(h1:1<=ns.length)(h6:ns.length<=6)
  (k:∀l H',H l=none->aJ H H'->H' x=some (.ins OW dx [("many",.int (ns.length:Int)),("numbers",.ref l)])->H' l=some (.lst (ns.map V.int))->R .non H') :
  Ki K NL OW [.ref x,.ref q] (upd (upd H dx (.own x)) x (.ins OW dx [])) R E:=by
 refine⟨x,dx,q,_,rfl,aC,fY hq hx hd,lR,by rw[qAa];lia,fun no=>?_,fun _ l H' hl sb e1 e2=>?_⟩
 .unfold okN at no;rw[qAa,decide_eq_true h1,decide_eq_true h6,all_ints] at no;cases no
 .rw[qAa] at e1;exact k l H' (hZ ne hl) (sb.made hx hd ne) e1 e2
theorem An(hn:(0::ns).length=2^m)(h1:1<=m)(h6:m<=6):kF ((0::ns).map V.int)=true:=by
 delta kF;rw[all_ints,qAa,hn];have:∀m:_root_.Fin 7,1<=m.1->[2,4,8,16,32,64].contains (2^m.1)=true:=by decide
 rw[this ⟨m,by lia⟩ h1];rfl
theorem wX{H:Hp}{q:Addr}{ns:List Int}{m:Nat}{x dx:Addr}{R:VK}{E:XK}(hx:H x=none)(hd:H dx=none)(ne:dx≠x)(hq:H q=some (.lst ((0::ns).map V.int)))(hn:(0::ns).length=2^m)(h1:1<=m)(h6:m<=6)
  (k:∀l H',H l=none->aJ H H'->H' x=some (.ins PL dx [("many",.int (m:Int)),("earnings",.ref l)])->H' l=some (.lst ((0::ns).map V.int))->R .non H') :
  Kk K NT PL [.ref x,.ref q] (upd (upd H dx (.own x)) x (.ins PL dx [])) R E:=by
 have h64:=FF h6;have ok:=An hn h1 h6;refine⟨x,dx,q,_,rfl,aC,fY hq hx hd,lR,by rw[qAa];lia,fun no=>?_,fun _ m' l H' m1 m6 hm' hl sb e1 e2=>?_⟩
 .rw[ok] at no;cases no
 .have em:m'=m:=by
   rw[qAa,hn] at hm';have inj:∀a b:_root_.Fin 7,2^a.1=2^b.1->b.1=a.1:=by decide
   exact inj ⟨m,by lia⟩ ⟨m',by lia⟩ hm'
  subst em;exact k l H' (hZ ne hl) (sb.made hx hd ne) e1 e2
theorem Gg(c:IF K RU)(n:c5 K RU "many"){H:Hp}{m:Nat}{x dx:Addr}{R:VK}{E:XK}(hx:H x=none)(hd:H dx=none)(ne:dx≠x)(h1:1<=m)(h6:m<=6)
  (k:∀H',aJ H H'->H' x=some (.ins RU dx [("many",.int (m:Int))])->R .non H') :
  uC K NL [.ref x,.int (m:Int)] (upd (upd H dx (.own x)) x (.ins RU dx [])) R E:=by
 have ok:mG 1 6 (.int (m:Int))=true:=by rw[iI,decide_eq_true h1,decide_eq_true h6];rfl
 refine⟨x,RU,dx,_,rfl,aC,c.cl,n,.int _,fun no=>?_,fun _=>?_⟩
 .rw[ok] at no;cases no
 .refine k _ (SameBut.made hx hd ne (((aJ.refl _).but x).jD _)) aC
theorem Eb{H:Hp}{p:Addr}{q pz:Int}{ws:List Int}{x dx:Addr}{R:VK}{E:XK}(hx:H x=none)(hd:H dx=none)(ne:dx≠x)(hp:H p=some (.lst (ws.map V.int)))(hq:1<=q)(h1:1<=ws.length)(h6:ws.length<=6)
  (k:∀(l:Addr) (H':Hp),H l=none->aJ H H'->H' x=some (.ins VO dx [("many",.int (ws.length:Int)),("quota",.int q),("prize",.int pz),("weights",.ref l)])->H' l=some (.lst (ws.map V.int))->R .non H') :
  Ko K NL VO [.ref x,.int q,.int pz,.ref p] (upd (upd H dx (.own x)) x (.ins VO dx [])) R E:=by
 refine⟨x,dx,p,_,_,_,rfl,aC,.int _,.int _,fY hp hx hd,lR,by rw[qAa];lia,fun no=>?_,fun _ l H' hl sb e1 e2=>?_⟩
 .have ok:FT (.int q) (.int pz) (ws.map V.int)=true:=by
   delta FT okN;rw[qAa,all_ints,decide_eq_true h1,decide_eq_true h6];show decide (1<=q)=true;exact decide_eq_true hq
  rw[ok] at no;cases no
 .rw[qAa] at e1;exact k l H' (hZ ne hl) (sb.made hx hd ne) e1 e2
theorem Ec(hx:H x=none)(hd:H dx=none)(ne:dx≠x)(hq:H q=some (.lst (as.map V.ref)))(ok:fD m H as)(a2:A2 (dW H) as qs)(h1:1<=m)(h6:m<=6)
  (k:∀(l:Addr) (bs:List Addr) (ps:List P3) (H':Hp),H l=none->aJ H H'->ps.Perm qs->lZ ps->A2 (dW H') bs ps->H' x=some (.ins PA dx [("many",.int (m:Int)),("pairs",.ref l)])->H' l=some (.lst (bs.map V.ref))->R .non H') :
  DK K NL PA [.ref x,.int (m:Int),.ref q] (upd (upd H dx (.own x)) x (.ins PA dx [])) R E:=by
 have ok':fD m (upd (upd H dx (.own x)) x (.ins PA dx [])) as:=ok.same fun b _ o e=>fY e hx hd;have i16:mG 1 6 (.int (m:Int))=true:=by rw[iI,decide_eq_true h1,decide_eq_true h6];rfl
 refine⟨x,dx,q,_,as,rfl,aC,.int _,fY hq hx hd,ok'.jJ,by have:=ok.2.2;lia,fun no=>?_,fun m' e _=>⟨fun no=>?_,fun _ l bs H' hl p hpw sb e1 e2=>?_⟩⟩
 .rw[i16] at no;cases no
 .have e:=V.int.inj e;subst e;rw[ok'.ok] at no;cases no
 .have s:=sb.made hx hd ne;have t:eO (upd (upd H dx (.own x)) x (.ins PA dx [])) H':=fun b xs e=>sb b _ (fP e aC (fun z=>nomatch z)) e;obtain⟨ps,a3,pm⟩:=(a2.imp fun _ _ z=>z.keep s.t).perm p;exact k l bs ps H' (hZ ne hl) s pm (a3.qI (Kr t (fun a ha=>let ⟨u,v,n,e,_⟩:=ok'.1 a (p.mem_iff.mp ha);⟨_,e⟩) hpw)) a3 e1 e2
theorem Ed(hx:H x=none)(hd:H dx=none)(ne:dx≠x)(hq:H q=some (.lst (as.map V.ref)))(ok:fD m H as)(a2:A2 (dW H) as qs)(h1:1<=m)(h6:m<=6)
  (k:∀(l lb:Addr) (bs:List Addr) (ps:List P3) (H':Hp),H l=none->H lb=none->aJ H H'->ps.Perm qs->lZ ps->A2 (dW H') bs ps->uF MA H' x lb m ps->(∃dx,H' x=some (.ins MA dx [("many",.int (m:Int)),("pairs",.ref l),("best",.ref lb)]))->H' l=some (.lst (bs.map V.ref))->R .non H') :
  Ks MA [.ref x,.int (m:Int),.ref q] (upd (upd H dx (.own x)) x (.ins MA dx [])) R E:=by
 have ok':fD m (upd (upd H dx (.own x)) x (.ins MA dx [])) as:=ok.same fun b _ o e=>fY e hx hd;refine⟨x,dx,q,m,as,rfl,aC,fY hq hx hd,ok',h1,h6,fun l lb bs ps H' hlb pm sb e1 e2 e3 e4 e5 hl=>?_⟩;have s:=sb.made hx hd ne;obtain⟨ps',a3,pm'⟩:=(a2.imp fun _ _ z=>z.keep s.t).perm pm;rw[a3.uniq e1] at pm';exact k l lb bs ps H' (hZ ne hl) (hZ ne hlb) s pm' e5 e1 e2 e3 e4
theorem Ee(hx:H x=none)(hd:H dx=none)(ne:dx≠x)(hp:H p=some (.lst (cs.map V.int)))(c1:1<=cs.length)(c6:cs.length<=6)(c0:∀c∈cs,0<=c)(hq:H q=some (.lst (as.map V.ref)))(ok:fD cs.length H as)(a2:A2 (dW H) as qs)(r0:∀r∈qs,0<=r.2.2)
  (k:∀(l lr:Addr) (rs:List P3) (H':Hp),H l=none->H lr=none->aJ H H'->rs.Perm qs->lZ rs->rD NE H' x l lr cs rs->R .non H') :
  KG NE [.ref x,.ref p,.ref q] (upd (upd H dx (.own x)) x (.ins NE dx [])) R E:=by
 have ok':fD cs.length (upd (upd H dx (.own x)) x (.ins NE dx [])) as:=ok.same fun b _ o e=>fY e hx hd;refine⟨x,dx,p,q,cs,as,rfl,aC,fY hp hx hd,c1,c6,c0,fY hq hx hd,ok',fun a ha r hr=>?_,fun l lr bs rs H' hl hlr pm sb e1 e2 e3=>?_⟩
 .obtain⟨u,v,n,e,_⟩:=ok.1 a ha;have e':dW _ a (u,v,n):=fY (u:=.own x) (v:=.ins NE dx []) e hx hd;have z:=hr.eq e';obtain⟨r',hr',pr'⟩:=a2.mem.1 a ha;have z2:r'=(u,v,n):=pr'.eq e;rw[z,<- z2];exact r0 r' hr'
 .have s:=sb.made hx hd ne;obtain⟨ps',a3,pm'⟩:=(a2.imp fun _ _ z=>z.keep s.t).perm pm;rw[a3.uniq e1] at pm';exact k l lr rs H' (hZ ne hl) (hZ ne hlr) s pm' e3 e2
abbrev Ru:=Addr×Nat×(Nat->Int)
def nU(P:qBl)(w:qCr)(K:qAb)(mg:Str->Option qAi)(base:Heap)(fE fH RU:Addr)(H:Hp)(os:List Ru):Prop:=∀o∈os,nB P w K mg base fE fH RU H o.1 o.2.1 o.2.2
theorem nU.same{fE fH RU:Addr}{H H':Hp}{os:List Ru}(h:nU P w K mg base fE fH RU H os)(s:aJ H H'):nU P w K mg base fE fH RU H' os:=fun o ho=>(h o ho).same s
def refs(os:List Ru):List V:=os.map fun o=>V.ref o.1
def wY(v:V)(os:List Ru):Bool:=!(mG 1 6 v)||decide (12<os.length)||(os.any fun o=>!(decide (V.int (o.2.1:Int)=v)))
def Gh(P:qBl)(w:qCr)(K:qAb)(mg:Str->Option qAi)(base:Heap)(fE fH RU CO NL:Addr):Sp:=fun vs H Q E=>∃(x dx p:Addr) (v:V) (os:List Ru),vs=[.ref x,v,.ref p]/\H x=some (.ins CO dx [])/\H p=some (.lst (refs os))/\os.length<=60/\nU P w K mg base fE fH RU H os/\Pl K H v /\
 (wY v os=true->∀H',aJ H H'->E (.ref NL) none H') /\
 (wY v os=false->∀l H',H l=none->SameBut x H H'->H' x=some (.ins CO dx [("many",v),("rules",.ref l)])->H' l=some (.lst (refs os))->Q .non H')
theorem Rq:aN ["self","many","rules"] ["self","many","rules"] (aH Mj):=#[1,2]
theorem OS(t:Mx K "__init__" "Company.__init__" Mj ["self","many","rules"] f fd)(T:#[4])(D_check_many:#[1,1] 3 "check_many" ["many"] (DE K NL) f1 fd1)(D_Hs:#[1,0] 1 ["self"] (FQ K) fH):
  #[1,0] 4 ["self","many","rules"] (Gh P w K mg base fE fH RU CO NL) f:=by
 refine t.CQ Rq (by rintro _ _ _ _⟨x,dx,p,v,os,rfl,_⟩;rfl) fun _ _ _ _ H vs Q E hr h=>?_;obtain⟨x,dx,p,v,os,rfl,hx,hp,ol,ro,pl,k0,k⟩:=h;obtain⟨tkMR,hMR⟩:=T.mr;have rl:(refs os).length=os.length:=by delta refs;rw[qAa]
 refine⟨_,(aD (bQ (fA bD.toPass D_check_many hr #[1] #[0] (aA (pv 1) aB)))
  (aD (bN (aP vC (aM aU #[0] T.cG bV (aA (pv 2) aB)) (cB (v:=.int 12) #[0] hMR ⟨tkMR,rfl⟩) (aT _)) (aG (eM bD rfl #[0] T.BE T.BF (aA aY aB))) aZ)
  (aD (bN (cZ (aM (vO rfl) #[0] T.pT yO (aA (bP (NB:=["rule","many"]) (pick:=[none,some 1]) (bT #[7] (by exact(And.intro rfl trivial)) rfl #[2] #[2] #[0] #[0]) rfl
    (bM (pv 2)) (fun _ _ _=>aK (i:=0) #[8,["rule","many"]] rfl cC)
    (fun _ _ _=>bX) (fun _ _ _=>(dD hV (pJ P w K mg base rfl rfl rfl rfl rfl (k:=1) bY (pv 0) hr #[1]) (pv 1) (aT _)))) aB))) (aG (eM bD rfl #[0] T.BE T.BF (aA aY aB))) aZ)
  (aD (gF (pv 0) (pv 1) rfl)
  (aG (gF (pv 0) (bW dF #[0] T.fK fU (aA (pv 2) aB)) rfl)))))),?_⟩
 exists _,rfl,v,rfl,pl;cases e1:mG 1 6 v with
 | false =>
  rw[if_neg qAn];exact k0 (by delta wY;rw[e1];rfl) H (.refl _)
 | true =>
  rw[if_pos rfl];exists _,rfl,p,_,rfl,.inl (aV.of hp),_,_,rfl,rfl,_,rfl;have ec:decide (((refs os).length:Int)>12)=decide (12<os.length):=by
   rw[rl];by_cases z:12<os.length
   .rw[decide_eq_true z,decide_eq_true (by lia)]
   .rw[decide_eq_false z,decide_eq_false (by lia)]
  show if decide (((refs os).length:Int)>12)=true then _ else _;rw[ec];cases e2:decide (12<os.length) with
  | true=>exact dG ⟨mH,k0 (by delta wY;rw[e1,e2];rfl) H (.refl _)⟩
  | false =>
   refine bK ?_;obtain⟨m,rfl⟩:∃m:Int,v = .int m:=by
    cases v with
    | int i=>exact⟨i,rfl⟩
    | _=>cases e1
   exists _,rfl,p,rfl,⟨_,aV.of hp⟩;refine cV (xs:=refs os) (fun i _=>(os[i]?).map fun o=>V.bl (!decide (V.int (o.2.1:Int)=V.int m))) (aV.of hp) (by rw[rl];exact qBb (aO (by lia))) (fun i y H2 kk kk0 s2 hy g1 g2=>?_) fun D H2 hD s2 hd=>?_
   .have hi:i<os.length:=by
     obtain⟨z,_⟩:=List.getElem?_eq_some_iff.mp hy;rw[rl] at z;exact z
    obtain rfl:V.ref os[i].1=y:=by
     delta refs at hy;rw[qAf,qAc hi] at hy;exact Option.some.inj hy
    obtain⟨C,dx',g,fs,h1,h2,h3,h4,h5,h6,ps,h7⟩:=ro os[i] (qDm hi);have h1:=s2 _ _ h1;exists _,rfl,os[i].1,C,dx',fs,fH,FQ K,rfl,h1,h6.2.1,h2.oc.cl,h2.mh,⟨_,D_Hs⟩;refine⟨os[i].1,C,dx',fs,_,rfl,h1,h2.oc.cl,h2.nm,h3,_,rfl,rfl,g1 _ ?_ _ (.refl _)⟩;rw[qAc hi];rfl
   have ed:((qAh (refs os).length).filterMap fun i=>((refs os)[i]?).bind fun _=>(os[i]?).map fun o=>V.bl (!decide (V.int (o.2.1:Int)=V.int m)))=(os.map fun o=>!decide (V.int (o.2.1:Int)=V.int m)).map V.bl:=by
    rw[rl,qBo];refine Eq.trans (dY (g:=fun i=>(os[i]?).bind fun o=>some (V.bl (!decide (V.int (o.2.1:Int)=V.int m)))) fun i hi=>?_) ?_
    .have hi:=List.mem_range.mp hi;rw[qAc (l:=refs os) (by rw[rl];exact hi),qAc hi];rfl
    .rw[cN,qBz];rfl
   rw[ed] at hd;exists D,_,rfl,aV.of hd,_,rfl;have ea:(os.map fun o=>!decide (V.int (o.2.1:Int)=V.int m)).any id=os.any fun o=>!(decide (V.int (o.2.1:Int)=V.int m)):=by rw[qLf];rfl
   rw[ea];cases e3:os.any fun o=>!(decide (V.int (o.2.1:Int)=V.int m)) with
   | true=>exact dG ⟨mH,k0 (by delta wY;rw[e1,e2,e3];rfl) H2 s2⟩
   | false =>
    refine bK ?_;have hx2:=s2 _ _ hx;have hp2:=s2 _ _ hp;refine⟨_,rfl,_,rfl,x,CO,dx,[],rfl,hx2,T.kX.oc.cl,T.kX.nm,by decide,?_⟩;have ne:p≠x:=fP hp hx (by intro z;cases z);have hp3:upd H2 x (.ins CO dx [("many",V.int m)]) p=some (.lst (refs os)):=by rw[aQ ne];exact hp2
    have sb:SameBut x H (upd H2 x (.ins CO dx [("many",V.int m)])):=(s2.but x).jD _;have hx3:upd H2 x (.ins CO dx [("many",V.int m)]) x=some (.ins CO dx [("many",V.int m)]):=aC;rw[show jH ("many":Str) (V.int m) []=[(("many":Str),V.int m)] from rfl];generalize upd H2 x (.ins CO dx [("many",V.int m)])=H3 at hp3 sb hx3|-;refine⟨_,rfl,p,_,rfl,.inl (aV.of hp3),fun l hl=>?_⟩;have u4:=aJ.aI (o:=.lst (refs os)) hl;have nl:l≠x:=(bG hx3 hl).symm;refine⟨_,rfl,x,CO,dx,_,rfl,u4 _ _ hx3,T.kX.oc.cl,T.kX.nr,(by show 1<1000;decide),?_⟩;refine k (by delta wY;rw[e1,e2,e3];rfl) l _ ?_ ((sb.then u4).jD _) aC (by rw[aQ nl];exact aC);cases e:H l with
    | none=>rfl
    | some o =>
     have z:=sb l o nl e;rw[hl] at z;cases z
theorem Rr:aN ["self"] ["self"] (aH Ml):=#[1,2]
theorem OT(t:Mx K "hands" "Company.hands" Ml ["self"] f fd):#[1,0] 1 ["self"] (FQ K) f:=by
 refine t.tQ Rr (by rintro _ _ _ _⟨a,C,dx,fs,v,rfl,_⟩;rfl) fun _ _ _ _ H vs Q E hr h=>?_;obtain⟨a,C,dx,fs,v,rfl,ha,c,n,hl,k⟩:=h;exists _,(aG (aS (cF (pv 0) rfl)));exact⟨_,rfl,a,C,dx,fs,v,rfl,ha,c,n,hl,k⟩
def wZ(P:qBl)(w:qCr)(K:qAb)(mg:Str->Option qAi)(base:Heap)(fE fH RU CO:Addr)(H:Hp)(a:Addr)(m:Nat)(os:List Ru):Prop :=
 ∃(dx l:Addr),H a=some (.ins CO dx [("many",.int (m:Int)),("rules",.ref l)])/\H l=some (.lst (refs os))/\os.length<=12/\1<=m/\m<=6/\nU P w K mg base fE fH RU H os/\∀o∈os,o.2.1=m
theorem wZ.same{fE fH RU CO:Addr}{H H':Hp}{a:Addr}{m:Nat}{os:List Ru}(h:wZ P w K mg base fE fH RU CO H a m os)(s:aJ H H'):wZ P w K mg base fE fH RU CO H' a m os:=by
 obtain⟨dx,l,h1,h2,h3,h4,h5,h6,h7⟩:=h;exact⟨dx,l,s _ _ h1,s _ _ h2,h3,h4,h5,h6.same s,h7⟩
def sS(os:List Ru)(g:Nat):Int:=(os.map fun o=>o.2.2 g).sum
def OU(P:qBl)(w:qCr)(K:qAb)(mg:Str->Option qAi)(base:Heap)(fE fH RU CO NG:Addr):Sp:=fun vs H Q E=>∃(a:Addr) (m:Nat) (os:List Ru) (v:V),vs=[.ref a,v]/\wZ P w K mg base fE fH RU CO H a m os/\Pl K H v /\
 (mG 0 (2^m-1) v=false->∀H',aJ H H'->E (.ref NG) none H')/\∀(g:Nat),v = .int (g:Int)->g<2^m->∀H',aJ H H'->Q (.int (sS os g)) H'
theorem Rt:aN ["self","group"] ["self","group"] (aH Mm):=#[1,2]
theorem OV(t:Mx K "earn" "Company.earn" Mm ["self","group"] f fd)(T:#[4])(D_check_group:#[1,1] 3 "check_group" ["group","many"] (wG K NG) f1 fd1)(D_Ern:#[1,0] 7 ["self","group"] (GR P w K mg base fE fH RU NG) fE):
  #[1,0] 8 ["self","group"] (OU P w K mg base fE fH RU CO NG) f:=by
 refine t.CQ Rt (by rintro _ _ _ _⟨a,m,os,v,rfl,_⟩;rfl) fun _ _ _ _ H vs Q E hr h=>?_;obtain⟨a,m,os,v,rfl,co,pl,k0,k⟩:=h;obtain⟨dx,l,h1,h2,h3,h4,h5,h6,h7⟩:=id co;have rl:(refs os).length=os.length:=by delta refs;rw[qAa]
 refine⟨_,(aD (bQ (fA bD.toPass D_check_group hr #[1] #[0] (aA (pv 1) (aA (cF (pv 0) rfl) aB))))
  (aG (aS (aM (fB rfl) #[0] T.hX iE (aA (bP (NB:=["rule","group"]) (pick:=[none,some 1]) (bT #[7] (by exact(And.intro rfl trivial)) rfl #[2] #[2] #[0] #[0]) rfl
    (bM (cF (pv 0) rfl)) (fun _ _ _=>aK (i:=0) #[8,["rule","group"]] rfl cC)
    (fun _ _ _=>bX) (fun _ _ _=>(sD P w K mg base rfl rfl rfl rfl rfl (k:=7) bY (pv 0) hr #[1] (aA (pv 1) aB)))) aB))))),?_⟩
 refine⟨_,rfl,_,rfl,a,CO,dx,_,_,rfl,h1,T.kX.oc.cl,T.kX.nm,rfl,v,m,rfl,h5,pl,k0,fun yes H1 s1=>?_⟩;obtain⟨gr,rfl,hg⟩:=lQ yes;have hl1:=s1 _ _ h2;exists _,rfl,a,CO,dx,_,_,rfl,s1 _ _ h1,T.kX.oc.cl,T.kX.nr,rfl,l,rfl,⟨_,aV.of hl1⟩;refine cV (xs:=refs os) (fun i _=>(os[i]?).map fun o=>V.int (o.2.2 gr)) (aV.of hl1) (by rw[rl];exact qBb (aO (by lia))) (fun i y H2 kk kk0 s2 hy g1 g2=>?_) fun D H2 hD s2 hd=>?_
 .have hi:i<os.length:=by
   obtain⟨z,_⟩:=List.getElem?_eq_some_iff.mp hy;rw[rl] at z;exact z
  obtain rfl:V.ref os[i].1=y:=by
   delta refs at hy;rw[qAf,qAc hi] at hy;exact Option.some.inj hy
  have ro:=(h6 os[i] (qDm hi)).same (s1.trans s2);have hm:=h7 os[i] (qDm hi);rw[hm] at ro;obtain⟨C,dx',g,fs,r1,r2,r3,r4,r5,r6,ps,r7⟩:=id ro;exists _,rfl,os[i].1,C,dx',fs,fE,_,rfl,r1,r6.1,r2.oc.cl,r2.me,⟨_,D_Ern⟩;refine⟨_,rfl,os[i].1,m,_,_,rfl,ro,.int _,(fun no=>?_),fun g' eg hg' H3 s3=>?_⟩
  .rw[yes] at no;cases no
  .obtain rfl:gr=g':=by have:=V.int.inj eg;lia
   refine g1 _ ?_ _ s3;rw[qAc hi];rfl
 have ed:((qAh (refs os).length).filterMap fun i=>((refs os)[i]?).bind fun _=>(os[i]?).map fun o=>V.int (o.2.2 gr))=(os.map fun o=>o.2.2 gr).map V.int:=by
  rw[rl,qBo];refine Eq.trans (dY (g:=fun i=>(os[i]?).bind fun o=>some (V.int (o.2.2 gr))) fun i hi=>?_) ?_
  .have hi:=List.mem_range.mp hi;rw[qAc (l:=refs os) (by rw[rl];exact hi),qAc hi];rfl
  .rw[cN,qBz];rfl
 rw[ed] at hd;exact⟨D,_,rfl,.inl (aV.of hd),k gr rfl hg H2 (s1.trans s2)⟩
def Ef(m:Nat)(os:List Ru):List Int:=(qAh (2^m)).map (sS os)
def Lb(P:qBl)(w:qCr)(K:qAb)(mg:Str->Option qAi)(base:Heap)(fE fH RU CO:Addr):Sp:=fun vs H Q _=>∃(a:Addr) (m:Nat) (os:List Ru),vs=[.ref a]/\wZ P w K mg base fE fH RU CO H a m os/\∀D H',H D=none->aJ H H'->H' D=some (.lst ((Ef m os).map V.int))->Q (.ref D) H'
theorem Rv:aN ["self"] ["self"] (aH Mo):=#[1,2]
theorem OX(t:Mx K "table" "Company.table" Mo ["self"] f fd)(T:#[4])(D_whole_company:#[5] 1 "whole_company" ["many"] FJ f1 fd1)(D_CE:#[1,0] 8 ["self","group"] (OU P w K mg base fE fH RU CO NG) cE):
  #[1,0] 9 ["self"] (Lb P w K mg base fE fH RU CO) f:=by
 refine t.tQ Rv (by rintro _ _ _ _⟨a,m,os,rfl,_⟩;rfl) fun _ _ _ _ H vs Q E hr h=>?_;obtain⟨a,m,os,rfl,co,k⟩:=h;obtain⟨dx,l,h1,h2,h3,h4,h5,h6,h7⟩:=id co;have h64:2^m<=64:=qBt (n:=2) #[1] h5;have hpos:0<2^m:=qGa #[1];refine⟨_,(aG (aS (bP (NB:=["group","self"]) (pick:=[none,some 0]) (bT #[7] (by exact(And.intro rfl trivial)) rfl #[2] #[2] #[0] #[0]) rfl
    (c8 #[0] T.cO (aA (aL cR (bH D_whole_company hr #[1] #[0] (aA (cF (pv 0) rfl) aB)) aE) aB)) (fun _ _ _=>aK (i:=0) #[8,["group","self"]] rfl cC)
    (fun _ _ _=>bX) (fun _ _ _=>(sD P w K mg base rfl rfl rfl rfl rfl (k:=8) bY (pv 1) hr #[1] (aA (pv 0) aB)))))),?_⟩
 refine⟨_,rfl,a,CO,dx,_,_,rfl,h1,T.kX.oc.cl,T.kX.nm,rfl,m,rfl,h5,fun H1 s1=>?_⟩;refine⟨_,_,rfl,rfl,((2^m:Nat):Int),(by show [V.int ((2:Int)^m-1+1)]=_;rw[Int.sub_add_cancel];push_cast;rfl),by lia,by lia,?_⟩;refine lN (lo:=0) (n:=2^m) (fun g=>some (.int (sS os g))) (qBb (aO (by lia))) (fun i H2 kk kk0 s2 hi g1 g2=>?_) fun D H2 hD s2 hd=>?_
 .rw[qEh (i:Int)];have co2:=co.same (s1.trans s2);refine⟨_,rfl,a,CO,dx,_,cE,_,rfl,(s1.trans s2) _ _ h1,rfl,T.kX.oc.cl,T.kX.me,⟨_,D_CE⟩,_,rfl,a,m,os,_,rfl,co2,.int _,(fun no=>?_),fun g' eg hg' H3 s3=>?_⟩
  .exact absurd no (by rw[oQ hi];decide)
  .obtain rfl:i=g':=by have:=V.int.inj eg;lia
   exact g1 _ rfl _ s3
 have ed:(qAh (2^m)).filterMap (fun g=>some (V.int (sS os g)))=(Ef m os).map V.int:=by
  delta Ef;rw[qBo,<- qEy];rfl
 rw[ed] at hd;exact k D H2 (s1.free hD) (s1.trans s2) hd
theorem Ao{fE fH RU CO NL:Addr}{H:Hp}{q:Addr}{m:Nat}{os:List Ru}{x dx:Addr}{R:VK}{E:XK}(hx:H x=none)(hd:H dx=none)(ne:dx≠x)(hq:H q=some (.lst (refs os)))(o12:os.length<=12)(ro:nU P w K mg base fE fH RU H os)(om:∀o∈os,o.2.1=m)(h1:1<=m)(h6:m<=6)
  (k:∀l H',H l=none->aJ H H'->H' x=some (.ins CO dx [("many",.int (m:Int)),("rules",.ref l)])->H' l=some (.lst (refs os))->R .non H') :
  Gh P w K mg base fE fH RU CO NL [.ref x,.int (m:Int),.ref q] (upd (upd H dx (.own x)) x (.ins CO dx [])) R E:=by
 have sm:aJ H (upd (upd H dx (.own x)) x (.ins CO dx [])):=SameBut.made hx hd ne ((aJ.refl _).but x);have b:wY (.int (m:Int)) os=false:=by
  delta wY;have i16:mG 1 6 (.int (m:Int))=true:=by rw[iI,decide_eq_true h1,decide_eq_true h6];rfl
  have ea:(os.any fun o=>!(decide (V.int (o.2.1:Int)=V.int (m:Int))))=false:=List.any_eq_false.mpr fun o ho'=>by
   rw[om o ho',decide_eq_true rfl];decide
  rw[i16,ea,decide_eq_false (by lia)];rfl
 refine⟨x,dx,q,_,os,rfl,aC,sm _ _ hq,by lia,ro.same sm,.int _,(fun bad=>?_),fun _ l H' hl sb e1 e2=>k l H' (sm.free hl) (sb.made hx hd ne) e1 e2⟩;rw[b] at bad;cases bad
theorem cI{F:St->Hp->Prop}{σ σ':St}{H:Hp}(e:σ=σ')(h:F σ' H):F σ H:=e▸h
theorem nG(R:St->Hp->Prop)(h1:(∀σ' H',R σ' H'->b D σ' H')->a { D with nx:=b D } σ H)(h2:∀σ' H',R σ' H'->b D σ' H'):HY a b D σ H:=h1 h2
def Gi(m:Nat)(ts:List Str):Str:=Txt.join ("; ":Str) ((("hands ":Str)++nW (m:Int))::ts)
def Gj(P:qBl)(w:qCr)(K:qAb)(mg:Str->Option qAi)(base:Heap)(fE fH RU CO:Addr):Sp:=fun vs H Q _=>∃(a:Addr) (m:Nat) (os:List Ru) (ts:List Str),vs=[.ref a]/\wZ P w K mg base fE fH RU CO H a m os/\ts.length=os.length/\(∀(i:Nat) (o:Ru) (tx:Str),os[i]?=some o->ts[i]?=some tx->kW P w K mg base H o.1 tx)/\(∀t∈ts,t.length<=60000)/\∀H',aJ H H'->Q (.str (Gi m ts)) H'
theorem cw_room{h:Str}{ts:List Str}(h0:h.length<=100)(hl:ts.length<=12)(hs:∀s∈ts,s.length<=60000):((h::ts).map (·.length)).sum+(h::ts).length*("; ":Str).length<=16777216:=by
 have a:=mB hs;have e:("; ":Str).length=2:=rfl;rw[qBa,qCh,qAw,e];have:=qMa 60000 hl;lia
theorem Rw:aN ["self"] ["self"] (aH Mn):=#[1,2]
theorem OY(t:Mx K "words" "Company.words" Mn ["self"] f fd)(T:#[4]):#[1,0] 4 ["self"] (Gj P w K mg base fE fH RU CO) f:=by
 refine t.tQ Rw (by rintro _ _ _ _⟨a,m,os,ts,rfl,_⟩;rfl) fun _ _ _ _ H vs Q E hr h=>?_;obtain⟨a,m,os,ts,rfl,co,tl,wo,t6,k⟩:=h;obtain⟨dx,l,h1,h2,h3,h4,h5,h6,h7⟩:=id co;have rl:(refs os).length=os.length:=by delta refs;rw[qAa]
 refine⟨_,(aG (aS (eD qCc qDi qDh fW aY (aA (aL cX (bO (aA (aL xZ aY (bW iZ #[0] T.pU yP (aA (cF (pv 0) rfl) aB))) aB)) (bP (NB:=["rule"]) (pick:=[none]) (bT #[7] (by exact trivial) rfl #[2] #[2] #[0] #[0]) rfl
    (bM (cF (pv 0) rfl)) (fun _ _ _=>aK (i:=0) #[8,["rule"]] rfl cC)
    (fun _ _ _=>bX) (fun _ _ _=>(pJ P w K mg base rfl rfl rfl rfl rfl (k:=3) bY (pv 0) hr #[1])))) aB)))),?_⟩
 have hm:(m:Int).natAbs<10^60:=qBi (show(m:Int).natAbs<=6 by lia) #[2];have l1:=eY hm;have lh:(("hands ":Str)++nW (m:Int)).length<=100:=by
  rw[Str.length_append];have:("hands ":Str).length=6:=rfl;lia
 refine⟨rfl,_,rfl,a,CO,dx,_,_,rfl,h1,T.kX.oc.cl,T.kX.nm,rfl,(m:Int),rfl,g8 hm,_,_,rfl,rfl,?_,mH,fun l0 hl0=>?_⟩
 .show("hands ":Str).length+(nW (m:Int)).length<=qAg;rw[<- Str.length_append];exact qAx lh #[1]
 have u0:=aJ.aI (o:=.lst [V.str (("hands ":Str)++nW (m:Int))]) hl0;exists _,rfl,a,CO,dx,_,_,rfl,u0 _ _ h1,T.kX.oc.cl,T.kX.nr,rfl,l,rfl,⟨_,aV.of (u0 _ _ h2)⟩;refine cV (xs:=refs os) (fun i _=>(ts[i]?).map V.str) (aV.of (u0 _ _ h2)) (by rw[rl];exact qBb (aO (by lia))) (fun i y H2 kk kk0 s2 hy g1 g2=>?_) fun D H2 hD s2 hd=>?_
 .have hi:i<os.length:=by
   obtain⟨z,_⟩:=List.getElem?_eq_some_iff.mp hy;rw[rl] at z;exact z
  obtain rfl:V.ref os[i].1=y:=by
   delta refs at hy;rw[qAf,qAc hi] at hy;exact Option.some.inj hy
  have ht:ts[i]?=some ts[i]:=qAc (by lia);obtain⟨C,dx',g,fs,r1,r2,r3,r4,ps,r7⟩:=(wo i os[i] ts[i] (qAc hi) ht).same (u0.trans s2);exact⟨_,rfl,os[i].1,C,dx',fs,g,_,rfl,r1,r2,r3,r4,⟨ps,r7⟩,rfl,.refl _,fun H3 s3=>g1 _ (by rw[ht];rfl) _ s3⟩
 have ed:((qAh (refs os).length).filterMap fun i=>((refs os)[i]?).bind fun _=>(ts[i]?).map V.str)=ts.map V.str:=by
  rw[rl];refine Eq.trans (dY (g:=fun i=>(ts[i]?).bind fun t=>some (V.str t)) fun i hi=>?_) ?_
  .have hi:=List.mem_range.mp hi;rw[qAc (l:=refs os) (by rw[rl];exact hi),qAc (l:=ts) (by lia)];rfl
  .rw[<- tl,cN,qBz]
 rw[ed] at hd;refine⟨l0,D,_,_,rfl,rfl,aV.of (s2 _ _ aC),aV.of hd,(by rw[qAa];exact fF (by show 1<=8;decide) (by lia)),fun p hp=>?_⟩;exact⟨_,p,(("hands ":Str)++nW (m:Int))::ts,rfl,rfl,aV.of aC,cw_room lh (by lia) t6,k _ (u0.trans (s2.trans (.aI hp)))⟩
def Eg:Sp:=fun vs H Q _=>∃n:Int,vs=[.str (nW n)]/\n.natAbs<10^30/\∀H',aJ H H'->Q (.int n) H'
theorem Hq:aN ["word","figures"] ["word"] (aH Jq):=#[1,2]
theorem Lc(t:Tx K mg "number_of" Jq ["word"] f fd)(T:#[4]):#[5] 1 "number_of" ["word"] Eg f fd:=by
 refine t.jI Hq (by rintro _ _ _ _⟨n,rfl,_⟩;rfl) fun _ _ _ _ H vs Q E hr h=>?_;obtain⟨n,rfl,hn,k⟩:=h;obtain⟨tkMF,hMF⟩:=T.mf;obtain⟨tkFG,hFG⟩:=T.fg;refine⟨_,(aD (bB (i:=1) Hq.nd rfl #[3] (uX (cZ (eD qCc qJd qJc pN (pv 0) (aA aY aB))) (dP Ds (pv 0) (eQ aE) eP) (pv 0)))
  (aD (bN (PW.pt (pw_or (eK (Cm vB vB aE (aM lF #[0] T.cG bV (aA (pv 1) aB)) (cB (v:=.int 30) #[0] hMF ⟨tkMF,rfl⟩))) (pw_or1 (eK (cZ (aM (pE rfl) #[0] T.pS yN (aA (bP (NB:=["sign"]) (pick:=[none]) (bT #[7] (by exact trivial) rfl #[2] #[2] #[0] #[0]) rfl
    (IU (pv 1)) (fun _ _ _=>aK (i:=0) #[8,["sign"]] rfl cC)
    (fun _ _ _=>bX) (fun _ _ _=>(dD AK (pv 0) (cB (v:=.str ("0123456789":Str)) #[0] hFG ⟨tkFG,rfl⟩) #[0]))) aB))))))) (aG j8) aZ)
  (aD (bN (PW.pt (pw_and (cZ (eD qCc qJd qJc pN (pv 1) (aA aY aB))) (pw_and1 (aP hV (pv 0) aY (aT _))))) (aG j8) aZ)
  (aG (aS (bW qY #[0] T.hW iD (aA (pv 0) aB))))))),?_⟩
 have Ap:n.natAbs<10^60:=qFn hn #[2];obtain⟨f1,f30⟩:=Dz (n:=n) #[1] hn;obtain⟨i1,i2⟩:=IW Ap;have sz:∀{x:Str},x.length<=640->x.length<=qAg:=fun h=>qAx h #[1];refine nG (fun σ' H'=>σ'=[some (.str (nW n)),some (.str (iH n))]/\H'=H) (fun tail=>?_) ?_
 .exists _,rfl,rfl,_,_,rfl,rfl,_,rfl;dsimp only;by_cases z:n<0
  .rw[sH,decide_eq_true z];refine dG ⟨_,rfl,1,rfl,nW n,rfl,sz (qAx (PyProof.Txt.length_slice_le _ _ _) i2),tail _ _ ⟨?_,rfl⟩⟩;rw[IX z];rfl
  .rw[sH,decide_eq_false z];refine bK ⟨_,rfl,tail _ _ ⟨?_,rfl⟩⟩;rw[<- Dy z];rfl
 rintro σ' H' ⟨rfl,rfl⟩;have fsz:(iH n).length<=qAg:=qAx f30 #[1];have c1:decide ((1:Int)<=((iH n).length:Int))=true:=decide_eq_true (by lia);have c2:decide (((iH n).length:Int)<=30)=true:=decide_eq_true (by lia);exists _,rfl,_,rfl,fsz,_,_,rfl,rfl;dsimp only;exists _,rfl;rw[c1];refine dG ⟨_,_,rfl,rfl,_,rfl,?_⟩;rw[c2];refine bK ?_;refine⟨_,rfl,iH n,rfl,Dx fun c hc=>by have:=wC hc;lia,?_⟩;refine Du (fun _=>some (.bl true)) (show(iH n).length<=qAg from fsz) (fun i x H2 kk kk0 s2 hx g1 g2=>?_) fun D H2 hD s2 hd=>?_
 .refine⟨_,rfl,_,_,rfl,rfl,g1 _ ?_ _ (.refl _)⟩;rw[Fz (wC (n:=n) (qAq (by rw[qHp];exact hx)))]
 have ed:(iH n).cps.toList.filterMap (fun _=>some (V.bl true))=((iH n).cps.toList.map fun _=>true).map V.bl:=by
  rw[qBo,<- qEy];rfl
 rw[ed] at hd;exists D,_,rfl,aV.of hd,_,rfl;have ea:((iH n).cps.toList.map fun _=>true).all id=true:=by
  rw[qLg,qJm];intro _ _;rfl
 rw[ea];refine bK ?_;dsimp only[bR];exists _,rfl,rfl,_,_,rfl,rfl,_,rfl;have fin:Q (.int n) H2:=k H2 s2;cases hz:Txt.startswith (iH n) ("0":Str) with
 | false=>exact bK ⟨_,rfl,_,_,rfl,i1,i2,fin⟩
 | true =>
  have e0:=Bp hz;refine dG ⟨_,rfl,rfl,_,rfl,?_⟩;dsimp only;rw[show decide (V.str (nW n)=V.str (Str.ofString "0"))=true from decide_eq_true (by rw[e0])];exact bK ⟨_,rfl,_,_,rfl,i1,i2,fin⟩
def Hr:Sp:=fun vs H Q _=>∃(p:Addr) (ns:List Int),vs=[.ref p]/\H p=some (.lst ((ns.map nW).map V.str))/\ns.length<=64/\(∀n∈ns,n.natAbs<10^30)/\∀(D:Addr) (H':Hp),H D=none->aJ H H'->H' D=some (.lst (ns.map V.int))->Q (.ref D) H'
theorem OZ:aN ["words"] ["words"] (aH Jr):=#[1,2]
theorem Ld(t:Tx K mg "numbers_of" Jr ["words"] f fd)(T:#[4])(D_number_of:#[5] 1 "number_of" ["word"] Eg f1 fd1):#[5] 2 "numbers_of" ["words"] Hr f fd:=by
 refine t.jI OZ (by rintro _ _ _ _⟨p,ns,rfl,_⟩;rfl) fun _ _ _ _ H vs Q E hr h=>?_;obtain⟨p,ns,rfl,hp,h64,hn,k⟩:=h;refine⟨_,(aG (aS (bP (NB:=["word"]) (pick:=[none]) (bT #[7] (by exact trivial) rfl #[2] #[2] #[0] #[0]) rfl
    (bM (pv 0)) (fun _ _ _=>aK (i:=0) #[8,["word"]] rfl cC)
    (fun _ _ _=>bX) (fun _ _ _=>(bH D_number_of hr #[1] #[0] (aA (pv 0) aB)))))),?_⟩
 exists _,rfl,p,rfl,⟨_,aV.of hp⟩;refine cV (xs:=(ns.map nW).map V.str) (fun i _=>(ns[i]?).map V.int) (aV.of hp) (by rw[qAa,qAa];exact qBb (aO (by lia))) (fun i x H2 kk kk0 s2 hx g1 g2=>?_) fun D H2 hD s2 hd=>?_
 .rw[qAf,qAf] at hx;cases e:ns[i]? with
  | none=>rw[e] at hx;cases hx
  | some n =>
   rw[e] at hx;cases hx;exact⟨_,rfl,n,rfl,hn n (qAq e),fun H3 s3=>g1 _ (by rw[e];rfl) _ s3⟩
 .refine k D H2 hD s2 ?_;rw[hd];have e:((qAh ((ns.map nW).map V.str).length).filterMap fun i=>(((ns.map nW).map V.str)[i]?).bind fun _=>(ns[i]?).map V.int)=(qAh ns.length).filterMap fun i=>(ns[i]?).bind fun n=>some (V.int n):=by
   rw[qAa,qAa];refine dY fun i hi=>?_;rw[qAf,qAf];cases ns[i]? <;> rfl
  rw[e,cN,qBz]
def Hs:Sp:=fun vs H Q _=>∃p:P3,vs=[.str (pW p)]/\p.1<6/\p.2.1<6/\p.2.2.natAbs<10^30/\∀(b:Addr) (H':Hp),H b=none->aJ H H'->dW H' b p->Q (.ref b) H'
theorem sT(h1:p.1<6)(h2:p.2.1<6):(pW p).cps.toList=[48+p.1,45,48+p.2.1,58]++(nW p.2.2).cps.toList:=by
 delta pW;rw[oP h1,oP h2];rw[Str.cps_append,Str.cps_append,Str.cps_append,Str.cps_append,Str.cps_append,qDk,qDk,qDk,qDk,qDk];rfl
theorem Pa:aN ["word"] ["word"] (aH Js):=#[1,2]
theorem Le(t:Tx K mg "pair_of" Js ["word"] f fd)(T:#[4])(D_number_of:#[5] 1 "number_of" ["word"] Eg f1 fd1):#[5] 2 "pair_of" ["word"] Hs f fd:=by
 refine t.jI Pa (by rintro _ _ _ _⟨p,rfl,_⟩;rfl) fun _ _ _ _ H vs Q E hr h=>?_;obtain⟨p,rfl,h1,h2,hn,k⟩:=h;refine⟨_,(aD (bN (PW.pt (pw_or (aP jM (aM lF #[0] T.cG bV (aA (pv 0) aB)) aE (aT _)) (pw_or (aP hV (aX tI (pv 0) aE #[6]) aY (aT _)) (pw_or1 (aP hV (aX tI (pv 0) aE #[6]) aY (aT _)))))) (aG j8) aZ)
  (aG (aS (cJ (aA (bH D_number_of hr #[1] #[0] (aA (aX tI (pv 0) aE #[6]) aB)) (aA (bH D_number_of hr #[1] #[0] (aA (aX tI (pv 0) aE #[6]) aB)) (aA (bH D_number_of hr #[1] #[0] (aA (dP Ds (pv 0) (eQ aE) eP) aB)) aB))))))),?_⟩
 have Ap:p.2.2.natAbs<10^60:=qFn hn #[2];have pl:=uJ h1 h2 Ap;have pt:=sT h1 h2;have at_:∀(j:Nat) (c:Nat),([48+p.1,45,48+p.2.1,58]++(nW p.2.2).cps.toList)[j]?=some c->fM (pW p).cps.toList (j:Int)=some c:=fun j c e=>by
  rw[pt];exact bS e
 have sz:(pW p).length<=qAg:=qAx pl #[1];have ge4:4<=(pW p).length:=by
  rw[str_len,pt,qAo];exact qHm 4 _
 exists _,rfl,_,rfl,sz,_,_,rfl,rfl,_,rfl;dsimp only;rw[decide_eq_false (show ¬((pW p).length:Int)<4 by lia)];refine bK ⟨_,rfl,_,_,_,rfl,rfl,sz,at_ 1 45 rfl,rfl,_,rfl,?_⟩;dsimp only;rw[show(!decide (V.str (⟨#[45]⟩:Str)=V.str (Str.ofString "-")))=false from by decide +kernel];refine bK ⟨_,rfl,_,_,_,rfl,rfl,sz,at_ 3 58 rfl,rfl,_,rfl,?_⟩;dsimp only;rw[show(!decide (V.str (⟨#[58]⟩:Str)=V.str (Str.ofString ":")))=false from by decide +kernel];refine bK ?_;have one:∀{a:Nat},a<6->((a:Int).natAbs<10^30):=fun h=>qFn (show _<6 from h) #[2];refine⟨_,rfl,_,_,_,rfl,rfl,sz,at_ 0 _ rfl,(p.1:Int),by rw[oP h1];rfl,one h1,fun H1 s1=>⟨_,rfl,_,_,_,rfl,rfl,sz,at_ 2 _ rfl,(p.2.1:Int),by rw[oP h2];rfl,one h2,fun H2 s2=>?_⟩⟩;have ec:Txt.slice (pW p) (some 4) none=nW p.2.2:=by
  refine Ad (Eq.trans (pQ (pW p) (k:=4) ge4) ?_);rw[pt];rfl
 refine⟨_,rfl,4,rfl,pW p,rfl,by rw[ec];exact qAx (eY Ap) #[1],p.2.2,by rw[ec];rfl,hn,fun H3 s3=>⟨Cb,fun b hb=>?_⟩⟩;have u:=(s1.trans s2).trans s3;exact k b _ (u.free hb) (u.trans (.aI hb)) aC
def Ht:Sp:=fun vs H Q _=>∃(l:Addr) (ps:List P3),vs=[.ref l]/\H l=some (.lst ((ps.map pW).map V.str))/\ps.length<=64/\(∀p∈ps,p.1<6/\p.2.1<6/\p.2.2.natAbs<10^30)/\∀(D:Addr) (bs:List Addr) (H':Hp),H D=none->aJ H H'->H' D=some (.lst (bs.map V.ref))->A2 (dW H') bs ps->Q (.ref D) H'
theorem A2.Aq:∀{ys:List V}{ps:List P3},ys.length=ps.length->(∀(i:Nat) (y:V),ys[i]?=some y->∃b p,y = .ref b/\ps[i]?=some p/\dW H b p)->∃bs:List Addr,ys=bs.map V.ref/\A2 (dW H) bs ps
 | [],[],_,_=>⟨[],rfl,.nil⟩
 | y::ys,[],h,_=>by cases h
 | [],p::ps,h,_=>by cases h
 | y::ys,p::ps,h,k=>by
  obtain⟨b,q,rfl,e,r⟩:=k 0 y rfl;cases e;obtain⟨bs,e,a⟩:=A2.Aq (ys:=ys) (ps:=ps) (by simpa using h) fun i y e=>k (i+1) y e;exact⟨b::bs,by rw[e];rfl,.cons r a⟩
theorem Pb:aN ["words"] ["words"] (aH Jt):=#[1,2]
theorem Lg(t:Tx K mg "pairs_of" Jt ["words"] f fd)(T:#[4])(D_pair_of:#[5] 2 "pair_of" ["word"] Hs f1 fd1):#[5] 3 "pairs_of" ["words"] Ht f fd:=by
 refine t.jI Pb (by rintro _ _ _ _⟨l,ps,rfl,_⟩;rfl) fun _ _ _ s H vs Q E hr h=>?_;obtain⟨l,ps,rfl,hl,h64,hn,k⟩:=h;refine⟨_,(aG (aS (bP (NB:=["word"]) (pick:=[none]) (bT #[7] (by exact trivial) rfl #[2] #[2] #[0] #[0]) rfl
    (bM (pv 0)) (fun _ _ _=>aK (i:=0) #[8,["word"]] rfl cC)
    (fun _ _ _=>bX) (fun _ _ _=>(bH D_pair_of hr #[1] #[0] (aA (pv 0) aB)))))),?_⟩
 exists _,rfl,l,rfl,⟨_,aV.of hl⟩;refine rX (xs:=(ps.map pW).map V.str) (fun i y H'=>∃b p,y = .ref b/\ps[i]?=some p/\dW H' b p) (by rintro i y G G' s ⟨b,p,e,e2,r⟩;exact ⟨b,p,e,e2,r.keep s⟩) (aV.of hl) (by rw[qAa,qAa];exact qBb (aO (by lia))) (fun i x H2 kk kk0 s2 hx g1=>?_) fun D ys H2 hD s2 hy hR hd=>?_
 .rw[qAf,qAf] at hx;cases e:ps[i]? with
  | none=>rw[e] at hx;cases hx
  | some p =>
   rw[e] at hx;cases hx;obtain⟨a1,a2,a3⟩:=hn p (qAq e);exact⟨_,rfl,p,rfl,a1,a2,a3,fun b H3 _ s3 r=>g1 _ _ s3 ⟨b,p,rfl,e,r⟩⟩
 .rw[qAa,qAa] at hy;obtain⟨bs,rfl,a2⟩:=A2.Aq hy hR;exact k D bs H2 hD s2 hd a2
def Hu(K:qAb):Sp:=fun vs H Q _=>∃m:Nat,vs=[.str (("hands ":Str)++nW (m:Int))]/\1<=m/\m<=6/\Q (.int (m:Int)) H
theorem Hv:aN ["part","many"] ["part"] (aH Jv):=#[1,2]
theorem Lh(t:Tx K mg "many_of" Jv ["part"] f fd)(T:#[4]):#[5] 1 "many_of" ["part"] (Hu K) f fd:=by
 refine t.jI Hv (by rintro _ _ _ _⟨m,rfl,_⟩;rfl) fun _ _ _ _ H vs Q E hr h=>?_;obtain⟨m,rfl,m1,m6,k⟩:=h;refine⟨_,(aD (dJ #[9] rfl (j3 #[0] T.cO (aA aE (aA (aM aU #[0] T.cG bV (aA (cB (v:=.ref LN) #[0] T.GO rfl) aB)) aB))) (aK (i:=1) Hv.nd rfl cC)
   (aG (bN (aP bU (pv 0) (z9 (eG aY (eG (nO (pv 1)) tV))) (aT _)) (aG (aS (pv 1))) aZ)))
  (aG j8)),?_⟩
 refine⟨LN,_,rfl,.inr (T.ln H),1,7,rfl,⟨by decide,by decide,by decide,by decide⟩,?_⟩;have hsame:∀a b:_root_.Fin 7,decide (V.str (("hands ":Str)++nW ((a.1:Nat):Int))=V.str (Str.empty++("hands ":Str)++nW ((b.1:Nat):Int)))=decide (a.1=b.1):=by decide +kernel
 refine eC (lo:=1) (n:=6) (fun i σ' H'=>H'=H/\i+1<=m/\∃o:Option V,σ'=[some (.str (("hands ":Str)++nW (m:Int))),o]) ⟨rfl,m1,_,rfl⟩ ?_ ?_
 .rintro i σ' H' hi ⟨rfl,him,o,rfl⟩;have e1:(1:Int)+(i:Int)=((i+1:Nat):Int):=by push_cast;lia
  rw[e1];have hi6:(((i+1:Nat):Int)).natAbs<10^60:=qBi (show(((i+1:Nat):Int)).natAbs<=6 by lia) #[2];have ln:=eY hi6;exists _,rfl,_,rfl;have e6:(Str.empty++("hands ":Str)).length=6:=rfl;have lt:(Str.empty++("hands ":Str)++nW ((i+1:Nat):Int)).length<=qAg:=by
   rw[Str.length_append,e6];exact qAx (qMc ln 6) #[1]
  exists by decide,_,rfl,((i+1:Nat):Int),rfl,g8 hi6,nW ((i+1:Nat):Int),rfl,lt,lt,rfl,_,rfl;dsimp only;have hc:=hsame ⟨m,by lia⟩ ⟨i+1,by lia⟩;rw[show decide (V.str (Str.ofString "hands " ++ nW (m:Int))=V.str (Str.empty++Str.ofString "hands " ++ nW ((i+1:Nat):Int)))=decide (m=i+1) from hc];by_cases z:m=i+1
  .rw[decide_eq_true z];refine dG ⟨_,rfl,?_⟩;rw[z] at k;exact k
  .rw[decide_eq_false z];exact bK ⟨rfl,by lia,_,rfl⟩
 .rintro σ' H' ⟨_,him,_⟩;lia
structure R4 where
 k:Nat
 ns:List Int
 ps:List P3
 way:Nat
def gA(k:Nat):Str:=match k with
 | 0=>"none"
 | 1=>"own"
 | 2=>"pairs"
 | 3=>"votes"
 | 4=>"match"
 | 5=>"net"
 | _=>"table"
def Mt(m k:Nat):Nat:=match k with
 | 0=>0
 | 1=>m
 | 2=>0
 | 3=>m+2
 | 4=>0
 | 5=>m
 | _=>2^m-1
structure GoodR (m:Nat) (r:R4):Prop where
 k7:r.k<7
 sz:r.ns.length=Mt m r.k
 nb:∀n∈r.ns,n.natAbs<10^30
 qI:lZ r.ps
 pb:∀p∈r.ps,p.1<p.2.1/\p.2.1<m/\p.2.2.natAbs<10^30
 pl:r.ps.length<=15
 pn:r.k≠2->r.k≠4->r.k≠5->r.ps=[]
 q1:r.k=3->1<=r.ns.getD 0 0
 n0:r.k=5->(∀n∈r.ns,0<=n)/\∀p∈r.ps,0<=p.2.2
def qB(r:R4)(qs:List P3):Str:=uT (gA r.k) (r.ns.map nW++qs.map pW)
def dZ(r:R4):Str:=qB r r.ps
def w4(ps:List P3)(g:Nat):Int:=(ps.filterMap fun p=>if both g p.1 p.2.1=true then some p.2.2 else none).sum
def eR(r:R4)(g:Nat):Int:=match r.k with
 | 1=>nA r.ns g
 | 2=>w4 r.ps g
 | 3=>rC (r.ns.getD 0 0) (r.ns.getD 1 0) (r.ns.drop 2) g
 | 6=>(0::r.ns).getD g 0
 | _=>0
theorem Pc(h:n<10^30):n<10^60:=qFn h #[2]
theorem GoodR.zI(g:GoodR m r)(m6:m<=6):r.ns.length<=63:=by
 have h64:2^m<=64:=qBt (n:=2) #[1] m6;rw[g.sz];delta Mt;split <;> lia
theorem GoodR.p6(g:GoodR m r)(m6:m<=6):∀q∈r.ps,q.1<6/\q.2.1<6/\q.2.2.natAbs<10^30:=fun q hq=>by
 obtain⟨a,b,c⟩:=g.pb q hq;exact⟨by lia,by lia,c⟩
theorem GoodR.Pd(g:GoodR m r)(m6:m<=6):∀q∈r.ps,q.1<6/\q.2.1<6/\q.2.2.natAbs<10^60:=fun q hq=>by
 obtain⟨a,b,c⟩:=g.p6 m6 q hq;exact⟨a,b,Pc c⟩
theorem GoodR.Ap(g:GoodR m r):∀n∈r.ns,n.natAbs<10^60:=fun n hn=>Pc (g.nb n hn)
theorem jX:∀{a b:List P3},lZ a->lZ b->a.Perm b->a=b
 | [],[],_,_,_=>rfl
 | [],y::b,_,_,p=>absurd p.length_eq (by simp)
 | x::a,[],_,_,p=>absurd p.length_eq (by simp)
 | x::a,y::b,ha,hb,p=>by
  delta lZ at ha hb;rw[qIu] at ha hb;have e:x=y:=by
   rcases List.mem_cons.mp (p.mem_iff.mp qBn) with h | h
   .exact h
   .rcases List.mem_cons.mp (p.mem_iff.mpr (qBn (a:=y) (l:=b))) with h2 | h2
    .exact h2.symm
    .have z1:=hb.1 x h;have z2:=ha.1 y h2;lia
  subst e;rw[jX ha.2 hb.2 (List.Perm.cons_inv p)]
theorem A2.all(h:A2 R as xs):∀a∈as,∃x∈xs,R a x:=by
 induction h with
 | nil=>intro a ha;cases ha
 | cons r _ ih =>
  intro a ha;rcases List.mem_cons.mp ha with rfl | ha
  .exact⟨_,qBn,r⟩
  .obtain⟨x,hx,z⟩:=ih a ha;exact⟨x,qAs _ hx,z⟩
theorem A2.keys(h:A2 (dW H) as qs):(as.map fun b=>gR (gN H b))=qs.map fun p=>((p.1:Int),(p.2.1:Int)):=by
 induction h with
 | nil=>rfl
 | cons r _ ih =>
  rw[qBa,qBa,ih];refine congrArg (· :: _) ?_;exact dW.ky r
theorem A2.uD(h:A2 (dW H) as qs)(g:Nat):uD H as g=w4 qs g:=by
 delta K20.uD w4;refine congrArg List.sum ?_;induction h with
 | nil=>rfl
 | @cons a x as xs r _ ih =>
  have e:pNum (gB H a) g=if both g x.1 x.2.1=true then some x.2.2 else none:=by
   rw[fV (ns:=[(x.1:Int),(x.2.1:Int),x.2.2]) r];rfl
  rw[qCf,qCf,e,ih]
theorem mC(a2:A2 (dW H) as qs)(pm:qs.Perm ps)(qI:lZ ps)(pb:∀p∈ps,p.1<p.2.1/\p.2.1<m/\p.2.2.natAbs<10^30)(pl:ps.length<=15):fD m H as:=by
 refine⟨fun b hb=>?_,?_,by rw[a2.len,pm.length_eq];exact pl⟩
 .obtain⟨p,hp,r⟩:=a2.all b hb;obtain⟨z1,z2,_⟩:=pb p (pm.mem_iff.mp hp);exact⟨p.1,p.2.1,p.2.2,r,z1,z2⟩
 .rw[a2.keys];refine((pm.map fun p=>((p.1:Int),(p.2.1:Int))).nodup_iff).mpr ?_;refine List.pairwise_map.mpr (qI.imp fun {p q} z e=>?_);have e1:=congrArg Prod.fst e;have e2:=congrArg Prod.snd e;dsimp only at e1 e2;lia
structure ZR (P:qBl) (w:qCr) (K:qAb) (mg:Str->Option qAi) (base:Heap) (AL LN RU OW PL PA VO MA NE fE fH rR rO rP rA rV rM rN iR iO iP iA iV iM iN fL wR wO wP wA wV wM wN CO iC cH cE cW cT fN SE NG NL NT:Addr):Prop where
 RI:Md P w K mg base 4 ["self","many"] (uC K NL) iR
 OI:Md P w K mg base 5 ["self","numbers"] (Ki K NL OW) iO
 PI:Md P w K mg base 5 ["self","table"] (Kk K NT PL) iP
 SY:Md P w K mg base 5 ["self","many","pairs"] (DK K NL PA) iA
 VI:Md P w K mg base 5 ["self","quota","prize","weights"] (Ko K NL VO) iV
 MI:Md P w K mg base 7 ["self","many","pairs"] (Ks MA) iM
 NI:Md P w K mg base 5 ["self","costs","ropes"] (KG NE) iN
 RR:Md P w K mg base 1 ["self","group"] Kg rR
 OR:Md P w K mg base 6 ["self","group"] (Kj OW) rO
 PR:Md P w K mg base 1 ["self","group"] (Kl PL) rP
 Ta:Md P w K mg base 2 ["self","group"] (DM PA) rA
 VR:Md P w K mg base 6 ["self","group"] (Kp VO) rV
 MR:Md P w K mg base 1 ["self","group"] (Kt MA) rM
 Tb:Md P w K mg base 5 ["self","group"] (DW NE) rN
 RW:Md P w K mg base 1 ["self"] KP wR
 Tc:Md P w K mg base 2 ["self"] (DY OW) wO
 Td:Md P w K mg base 2 ["self"] (DZ PL) wP
 Te:Md P w K mg base 2 ["self"] (Ea PA) wA
 VW:Md P w K mg base 2 ["self"] (KR VO) wV
 MW:Md P w K mg base 2 ["self"] (KW MA) wM
 NW:Md P w K mg base 2 ["self"] (KY NE) wN
noncomputable def eS (r:R4) (g:Nat):Int:=if r.k=4 then (bI r.ps g).1 else if r.k=5 then gainN r.ns r.ps g else eR r g
theorem BS(hk:r.k=k)(h4:k≠4)(h5:k≠5):eS r g=eR r g:=by
 delta eS;rw[hk,if_neg h4,if_neg h5]
theorem Pe(hk:r.k=4)(g:Nat):eS r g=(bI r.ps g).1:=by
 delta eS;rw[if_pos hk]
theorem Pf(hk:r.k=5)(g:Nat):eS r g=gainN r.ns r.ps g:=by
 delta eS;rw[hk];rfl
def zJ(P:qBl)(w:qCr)(K:qAb)(mg:Str->Option qAi)(base:Heap)(fE fH RU:Addr)(H:Hp)(x:Addr)(m:Nat)(r:R4):Prop:=∃e:Nat->Int,nB P w K mg base fE fH RU H x m e/\kW P w K mg base H x (dZ r)/\(∀g,e g=eS r g)
def Gk(P:qBl)(w:qCr)(K:qAb)(mg:Str->Option qAi)(base:Heap)(fE fH RU:Addr)(H:Hp)(F:List Addr)(x:Addr)(m:Nat)(r:R4):Prop:=∀H'',(∀b∈F,∀o,H b=some o->H'' b=some o)->eO H H''->zJ P w K mg base fE fH RU H'' x m r
theorem uK(h:r.ps=[]):dZ r=uT (gA r.k) (r.ns.map nW):=by
 delta dZ qB;rw[h,qEn,qCl]
theorem Eh(h:r.ns=[]):dZ r=uT (gA r.k) (r.ps.map pW):=by
 delta dZ qB;rw[h,qEn,qFo]
section
variable {H:Hp}{x dx l:Addr}{m:Nat}{r:R4}
theorem Gm(T:#[4])(Z:ZR P w K mg base AL LN RU OW PL PA VO MA NE fE fH rR rO rP rA rV rM rN iR iO iP iA iV iM iN fL wR wO wP wA wV wM wN CO iC cH cE cW cT fN SE NG NL NT)(g:GoodR m r)(hk:r.k=0)(m1:1<=m)(m6:m<=6)(hx:H x=some (.ins RU dx [("many",.int (m:Int))])):Gk P w K mg base fE fH RU H [x] x m r:=fun H'' kk _=>by
 have h1:=kk _ (by simp) _ hx;refine⟨_,DJ Z.RR T.PB h1 m1 m6,?_,fun z=>Eq.trans ?_ (BS hk #[1] #[1]).symm⟩
 .have e:dZ r=("none":Str):=by
   rw[uK (g.pn (by lia) (by lia) (by lia)),hk];have z:r.ns=[]:=List.length_eq_zero_iff.mp (by rw[g.sz,hk];rfl);rw[z];rfl
  rw[e];exact KZ T Z.RW h1
 .delta eR;rw[hk];rfl
theorem Li(T:#[4])(Z:ZR P w K mg base AL LN RU OW PL PA VO MA NE fE fH rR rO rP rA rV rM rN iR iO iP iA iV iM iN fL wR wO wP wA wV wM wN CO iC cH cE cW cT fN SE NG NL NT)(g:GoodR m r)(hk:r.k=1)(m1:1<=m)(m6:m<=6)(hx:H x=some (.ins OW dx [("many",.int (m:Int)),("numbers",.ref l)]))(hl:H l=some (.lst (r.ns.map V.int))):Gk P w K mg base fE fH RU H [x,l] x m r:=fun H'' kk _=>by
 have h1:=kk _ (by simp) _ hx;have h2:=kk _ (by simp) _ hl;have nl:r.ns.length=m:=by rw[g.sz,hk];rfl
 rw[<- nl] at h1;have z:=FR (fE:=fE) (fH:=fH) (RU:=RU) Z.OR T.JN h1 h2 (by lia) (by lia);rw[nl] at z;refine⟨_,z,?_,fun z=>Eq.trans ?_ (BS hk #[1] #[1]).symm⟩
 .rw[uK (g.pn (by lia) (by lia) (by lia)),hk];exact OP T Z.Tc h1 h2 (by lia) g.Ap
 .delta eR;rw[hk];rfl
theorem Ei(T:#[4])(Z:ZR P w K mg base AL LN RU OW PL PA VO MA NE fE fH rR rO rP rA rV rM rN iR iO iP iA iV iM iN fL wR wO wP wA wV wM wN CO iC cH cE cW cT fN SE NG NL NT)(g:GoodR m r)(hk:r.k=3)(m1:1<=m)(m6:m<=6)(hx:H x=some (.ins VO dx [("many",.int (m:Int)),("quota",.int (r.ns.getD 0 0)),("prize",.int (r.ns.getD 1 0)),("weights",.ref l)]))(hl:H l=some (.lst ((r.ns.drop 2).map V.int))):Gk P w K mg base fE fH RU H [x,l] x m r:=fun H'' kk _=>by
 have h1:=kk _ (by simp) _ hx;have h2:=kk _ (by simp) _ hl;have nl:r.ns.length=m+2:=by rw[g.sz,hk];rfl
 have dl:(r.ns.drop 2).length=m:=by rw[qDn];lia
 have en:r.ns.getD 0 0::r.ns.getD 1 0::r.ns.drop 2=r.ns:=by
  match hn:r.ns,nl with
  | a::b::c,_=>rfl
  | [],z=>simp at z
  | [a],z=>simp at z
 have Ap:=g.Ap;rw[<- dl] at h1;have z:=BM (fE:=fE) (fH:=fH) (RU:=RU) Z.VR T.BD h1 h2 (by lia) (by lia);rw[dl] at z;refine⟨_,z,?_,fun z=>Eq.trans ?_ (BS hk #[1] #[1]).symm⟩
 .rw[uK (g.pn (by lia) (by lia) (by lia)),hk];have y:=Gb T Z.VW h1 h2 (by lia) (by rw[en];exact Ap);rw[en] at y;exact y
 .delta eR;rw[hk];rfl
theorem xA(T:#[4])(Z:ZR P w K mg base AL LN RU OW PL PA VO MA NE fE fH rR rO rP rA rV rM rN iR iO iP iA iV iM iN fL wR wO wP wA wV wM wN CO iC cH cE cW cT fN SE NG NL NT)(g:GoodR m r)(hk:r.k=6)(m1:1<=m)(m6:m<=6)(hx:H x=some (.ins PL dx [("many",.int (m:Int)),("earnings",.ref l)]))(hl:H l=some (.lst ((0::r.ns).map V.int))):Gk P w K mg base fE fH RU H [x,l] x m r:=fun H'' kk _=>by
 have h1:=kk _ (by simp) _ hx;have h2:=kk _ (by simp) _ hl;have hpos:0<2^m:=qGa #[1];have nl:r.ns.length=2^m-1:=by rw[g.sz,hk];rfl
 refine⟨_,BJ Z.PR T.JO h1 h2 (by rw[qAw];lia) m1 m6,?_,fun z=>Eq.trans ?_ (BS hk #[1] #[1]).symm⟩
 .rw[uK (g.pn (by lia) (by lia) (by lia)),hk];have:=g.zI m6;exact Gd T Z.Td h1 h2 (by lia) g.Ap
 .delta eR;rw[hk];rfl
theorem Ej(T:#[4])(Z:ZR P w K mg base AL LN RU OW PL PA VO MA NE fE fH rR rO rP rA rV rM rN iR iO iP iA iV iM iN fL wR wO wP wA wV wM wN CO iC cH cE cW cT fN SE NG NL NT)(g:GoodR m r)(hk:r.k=2)(m1:1<=m)(m6:m<=6){bs:List Addr}(hx:H x=some (.ins PA dx [("many",.int (m:Int)),("pairs",.ref l)]))(hl:H l=some (.lst (bs.map V.ref)))(a2:A2 (dW H) bs r.ps):Gk P w K mg base fE fH RU H [x,l] x m r:=fun H'' kk st=>by
 have h1:=kk _ (by simp) _ hx;have h2:=kk _ (by simp) _ hl;have a3:A2 (dW H'') bs r.ps:=a2.imp fun _ _ z=>z.keep st;have ok:=mC a3 (.refl _) g.qI g.pb g.pl;have pl:=g.pl;refine⟨_,BL Z.Ta T.JP h1 h2 (by rw[a3.len];lia) (ok.pair m6) m1 m6,?_,fun z=>Eq.trans ?_ (BS hk #[1] #[1]).symm⟩
 .rw[Eh (List.length_eq_zero_iff.mp (by rw[g.sz,hk];rfl)),hk];exact Ge T Z.Te h1 h2 a3 (by lia) (g.Pd m6)
 .delta eR;rw[hk,a3.uD];rfl
theorem Ek(T:#[4])(Z:ZR P w K mg base AL LN RU OW PL PA VO MA NE fE fH rR rO rP rA rV rM rN iR iO iP iA iV iM iN fL wR wO wP wA wV wM wN CO iC cH cE cW cT fN SE NG NL NT)(g:GoodR m r)(hk:r.k=4)(m6:m<=6){bs:List Addr}{lb:Addr}(hx:H x=some (.ins MA dx [("many",.int (m:Int)),("pairs",.ref l),("best",.ref lb)]))(hl:H l=some (.lst (bs.map V.ref)))(a2:A2 (dW H) bs r.ps)(mo:uF MA H x lb m r.ps):Gk P w K mg base fE fH RU H [x,l,lb] x m r:=fun H'' kk st=>by
 have h1:=kk _ (by simp) _ hx;have h2:=kk _ (by simp) _ hl;have a3:A2 (dW H'') bs r.ps:=a2.imp fun _ _ z=>z.keep st;have pl:=g.pl;obtain⟨d',l',ts,e1,e2,e3,e4⟩:=mo;have mo':uF MA H'' x lb m r.ps:=⟨d',l',ts,kk _ (by simp) _ e1,kk _ (by simp) _ e2,e3.imp fun _ _ z=>z.keep st,e4⟩;refine⟨_,BP Z.MR T.FG mo',?_,fun z=>(Pe hk z).symm⟩;rw[Eh (List.length_eq_zero_iff.mp (by rw[g.sz,hk];rfl)),hk];exact Gf T Z.MW h1 h2 a3 (by lia) (g.Pd m6)
theorem Lj(T:#[4])(Z:ZR P w K mg base AL LN RU OW PL PA VO MA NE fE fH rR rO rP rA rV rM rN iR iO iP iA iV iM iN fL wR wO wP wA wV wM wN CO iC cH cE cW cT fN SE NG NL NT)(g:GoodR m r)(hk:r.k=5)(m6:m<=6){lr:Addr}(no:rD NE H x l lr r.ns r.ps):Gk P w K mg base fE fH RU H [x,l,lr] x m r:=fun H'' kk st=>by
 obtain⟨dy,bs,f1,f2,f3,f4,f5⟩:=no;have h1:=kk _ (by simp) _ f1;have h2:=kk _ (by simp) _ f2;have h3:=kk _ (by simp) _ f3;have a3:A2 (dW H'') bs r.ps:=f4.imp fun _ _ z=>z.keep st;have nl:r.ns.length=m:=by rw[g.sz,hk];rfl
 have pl:=g.pl;have z:=Ga (fE:=fE) (fH:=fH) (RU:=RU) Z.Tb T.uQ ⟨dy,bs,h1,h2,h3,a3,f5⟩;rw[nl] at z;refine⟨_,z,?_,fun z=>(Pf hk z).symm⟩;have e:dZ r=uT ("net":Str) (r.ns.map nW++r.ps.map pW):=by
  delta dZ qB;rw[hk];rfl
 rw[e];exact OQ T Z.NW h1 h2 h3 a3 (by lia) (by lia) g.Ap (g.Pd m6)
end
theorem fZ{rs:List Int}{j:Nat}(hj:j<rs.length):fM (rs.map V.int) (j:Int)=some (.int (rs.getD j 0)):=bS (by rw[qAf,qAj,qAc hj];rfl)
def NK(H H' H'':Hp):Prop:=∀b o,(H b=none\/∃us,o=HO.tup us)->H' b=some o->H'' b=some o
theorem Gk.nk(h:Gk P w K mg base fE fH RU H' F x m r)(hF:∀b∈F,H b=none)(k:NK H H' H''):zJ P w K mg base fE fH RU H'' x m r :=
 h H'' (fun b hb o e=>k b o (.inl (hF b hb)) e) fun b us e=>k b _ (.inr ⟨us,rfl⟩) e
def El(P:qBl)(w:qCr)(K:qAb)(mg:Str->Option qAi)(base:Heap)(fE fH RU:Addr):Sp:=fun vs H Q _=>∃(p:Addr) (m:Nat) (r:R4) (qs:List P3),vs=[.int (m:Int),.ref p]/\H p=some (.lst ((gA r.k::(r.ns.map nW++qs.map pW)).map V.str))/\qs.Perm r.ps/\GoodR m r/\1<=m/\m<=6/\∀x H',aJ H H'->(∀H'',NK H H' H''->zJ P w K mg base fE fH RU H'' x m r)->Q (.ref x) H'
theorem Ar:aN ["many","words","kind","told","numbers"] ["many","words"] (aH Ju):=#[1,2]
theorem Lk{f1 f2:Addr}{fd1 fd2:qCi}(t:Tx K mg "rule_of" Ju ["many","words"] f fd)(T:#[4])(Z:ZR P w K mg base AL LN RU OW PL PA VO MA NE fE fH rR rO rP rA rV rM rN iR iO iP iA iV iM iN fL wR wO wP wA wV wM wN CO iC cH cE cW cT fN SE NG NL NT)(D_numbers_of:#[5] 2 "numbers_of" ["words"] Hr f1 fd1)(D_pairs_of:#[5] 3 "pairs_of" ["words"] Ht f2 fd2):
  #[5] 9 "rule_of" ["many","words"] (El P w K mg base fE fH RU) f fd:=by
 have D_RI:=Z.RI;have D_OI:=Z.OI;have D_PI:=Z.PI;have D_PaI:=Z.SY;have D_VI:=Z.VI;have D_MI:=Z.MI;have D_NI:=Z.NI;refine t.jI Ar (fun vs H Q E h=>?_) (fun cdv A outer s H vs Q E hr h=>?_)
 .obtain⟨p,m,r,qs,rfl,_⟩:=h;rfl
 .obtain⟨p,m,r,qs,rfl,hp,pm,g,m1,m6,k⟩:=h;refine⟨_,(aD (bB (i:=2) Ar.nd rfl cC (aX bF (pv 1) aE #[6]))
   (aD (bB (i:=3) Ar.nd rfl cC (dP gP (pv 1) (eQ aE) eP))
   (aD (bN (PW.pt (pw_and (aP bU (pv 2) aY (aT _)) (pw_and1 (aP bU (aM aU #[0] T.cG bV (aA (pv 3) aB)) aE (aT _))))) (aG (aS (eN bY T.Sm D_RI hr #[1] #[0] T.DD (aA (pv 0) aB)))) aZ)
   (aD (bN (PW.pt (pw_and (aP bU (pv 2) aY (aT _)) (pw_and1 (aP bU (aM aU #[0] T.cG bV (aA (pv 3) aB)) (pv 0) (aT _))))) (aG (aS (eN bY T.Sn D_OI hr #[1] #[0] T.Nv (aA (bH D_numbers_of hr #[1] #[0] (aA (pv 3) aB)) aB)))) aZ)
   (aD (bN (aP bU (pv 2) aY (aT _)) (aG (aS (eN bY T.So D_PaI hr #[1] #[0] T.Nw (aA (pv 0) (aA (bH D_pairs_of hr #[1] #[0] (aA (pv 3) aB)) aB))))) aZ)
   (aD (bN (PW.pt (pw_and (aP bU (pv 2) aY (aT _)) (pw_and1 (aP bU (aM aU #[0] T.cG bV (aA (pv 3) aB)) (aL cR (pv 0) aE) (aT _))))) (aD (bB (i:=4) Ar.nd rfl cC (bH D_numbers_of hr #[1] #[0] (aA (pv 3) aB)))
    (aG (aS (eN bY T.Sq D_VI hr #[1] #[0] T.Nx (aA (aX bF (pv 4) aE #[6]) (aA (aX bF (pv 4) aE #[6]) (aA (dP gP (pv 4) (eQ aE) eP) aB))))))) aZ)
   (aD (bN (aP bU (pv 2) aY (aT _)) (aG (aS (eN bY T.Sr D_MI hr #[1] #[0] T.Ny (aA (pv 0) (aA (bH D_pairs_of hr #[1] #[0] (aA (pv 3) aB)) aB))))) aZ)
   (aD (bN (PW.pt (pw_and (aP bU (pv 2) aY (aT _)) (pw_and1 (aP Ci (aM aU #[0] T.cG bV (aA (pv 3) aB)) (pv 0) (aT _))))) (aG (aS (eN bY T.RQ D_NI hr #[1] #[0] T.Mq (aA (bH D_numbers_of hr #[1] #[0] (aA (dP gP (pv 3) eP (eQ (pv 0))) aB)) (aA (bH D_pairs_of hr #[1] #[0] (aA (dP gP (pv 3) (eQ (pv 0)) eP) aB)) aB))))) aZ)
   (aD (bN (PW.pt (pw_and (aP bU (pv 2) aY (aT _)) (pw_and1 (aP bU (aM aU #[0] T.cG bV (aA (pv 3) aB)) (aL eW (aX bL (cB (v:=.ref LN) #[0] T.GO rfl) (pv 0) #[6]) aE) (aT _))))) (aG (aS (eN bY T.RP D_PI hr #[1] #[0] T.Mp (aA (aL cX (bO (aA aE aB)) (bH D_numbers_of hr #[1] #[0] (aA (pv 3) aB))) aB)))) aZ)
   (aG j8)))))))))),?_⟩
  have hat0:fM ((gA r.k::(r.ns.map nW++qs.map pW)).map V.str) 0=some (.str (gA r.k)):=bS (j:=0) rfl;exists _,rfl,p,_,_,_,rfl,rfl,aV.of hp,hat0;refine⟨_,rfl,1,rfl,p,_,rfl,aV.of hp,fun lt hlt=>?_⟩;have ec:gH ((gA r.k::(r.ns.map nW++qs.map pW)).map V.str) (some 1) none=(r.ns.map nW++qs.map pW).map V.str:=kU ((gA r.k::(r.ns.map nW++qs.map pW)).map V.str) 1;rw[ec];have u1:=aJ.aI (o:=.lst ((r.ns.map nW++qs.map pW).map V.str)) hlt;have ht:upd H lt (.lst ((r.ns.map nW++qs.map pW).map V.str)) lt=some (.lst ((r.ns.map nW++qs.map pW).map V.str)):=aC;generalize upd H lt (.lst ((r.ns.map nW++qs.map pW).map V.str))=H1 at u1 ht|-;dsimp only[bC];refine cI (σ':=[some (.int (m:Int)),some (.ref p),some (.str (gA r.k)),some (.ref lt),none]) rfl ?_;have h64:2^m<=64:=qBt (n:=2) #[1] m6;have hpos:0<2^m:=qGa #[1];have n63:=g.zI m6;have p15:=g.pl;have ql:=pm.length_eq;have q6:∀q∈qs,q.1<6/\q.2.1<6/\q.2.2.natAbs<10^30:=fun q hq=>g.p6 m6 q (pm.mem_iff.mp hq);have tl:((r.ns.map nW++qs.map pW).map V.str).length=r.ns.length+qs.length:=by rw[qAa,qAo,qAa,qAa]
  have k7:=g.k7;have hk:r.k=0\/r.k=1\/r.k=2\/r.k=3\/r.k=4\/r.k=5\/r.k=6:=by lia
  have sz:=g.sz;rcases hk with hk | hk | hk | hk | hk | hk | hk
  .rw[hk] at sz;have q0:qs=[]:=List.length_eq_zero_iff.mp (by rw[ql,g.pn (by lia) (by lia) (by lia)];rfl);have hz:((r.ns.map nW++qs.map pW).map V.str).length=0:=by rw[tl,sz,q0];rfl
   rw[hk];refine⟨_,rfl,rfl,_,rfl,dG ?_⟩;exists _,rfl,lt,_,rfl,.inl (aV.of ht),rfl,_,rfl;rw[hz];refine dG ⟨_,rfl,fun x dx hx hd ne=>Gg T.PB.oc T.PB.nm hx hd ne m1 m6 fun H5 s5 hx5=>⟨rfl,?_⟩⟩;exact k x H5 (u1.trans s5) fun H'' nk=>(Gm T Z g hk m1 m6 hx5).nk (fun b hb=>by rw[List.mem_singleton.mp hb];exact u1.free hx) nk
  .rw[hk] at sz;have q0:qs=[]:=List.length_eq_zero_iff.mp (by rw[ql,g.pn (by lia) (by lia) (by lia)];rfl);have hz:(((r.ns.map nW++qs.map pW).map V.str).length:Int)=(m:Int):=by rw[tl,sz,q0];rfl
   have ht':=ht;rw[q0,qEn,qCl] at ht';have sz:r.ns.length=m:=sz;rw[hk];refine⟨_,rfl,rfl,_,rfl,bK ?_⟩;dsimp only[bR];refine⟨_,rfl,rfl,_,rfl,dG ?_⟩;refine⟨_,rfl,lt,_,rfl,.inl (aV.of ht),_,rfl,rfl,_,rfl,cU (fun _=>?_) (fun h=>absurd (decide_eq_true (congrArg V.int hz)) h)⟩;refine⟨_,rfl,lt,r.ns,rfl,ht',by lia,g.nb,fun ln H2 hln s2 hn2=>?_⟩;refine fun x dx hx hd ne=>La hx hd ne hn2 (by lia) (by lia) fun l' H5 hl' s5 hx5 hl5=>⟨rfl,?_⟩;have u2:=u1.trans s2;rw[sz] at hx5;exact k x H5 (u2.trans s5) fun H'' nk=>(Li T Z g hk m1 m6 hx5 hl5).nk (fun b hb=>u2.free (by rcases List.mem_cons.mp hb with z | z;rw[z];exact hx;rw[List.mem_singleton.mp z];exact hl')) nk
  .rw[hk] at sz;have n0:r.ns=[]:=List.length_eq_zero_iff.mp sz;have ht':=ht;rw[n0,qEn,qFo] at ht';rw[hk];refine⟨_,rfl,rfl,_,rfl,bK ?_⟩;dsimp only[bR];refine⟨_,rfl,rfl,_,rfl,bK ?_⟩;dsimp only[bR];refine⟨_,rfl,rfl,_,rfl,dG ?_⟩;refine⟨_,rfl,_,rfl,lt,qs,rfl,ht',by lia,q6,fun ln as H2 hln s2 hn2 a2=>?_⟩;have ok:=mC a2 pm g.qI g.pb g.pl;refine fun x dx hx hd ne=>Ec hx hd ne hn2 ok a2 m1 m6 fun l' bs ps' H5 hl' s5 pm5 srt5 a5 hx5 hl5=>⟨rfl,?_⟩;have u2:=u1.trans s2;rw[jX srt5 g.qI (pm5.trans pm)] at a5;exact k x H5 (u2.trans s5) fun H'' nk=>(Ej T Z g hk m1 m6 hx5 hl5 a5).nk (fun b hb=>u2.free (by rcases List.mem_cons.mp hb with z | z;rw[z];exact hx;rw[List.mem_singleton.mp z];exact hl')) nk
  .rw[hk] at sz;have q0:qs=[]:=List.length_eq_zero_iff.mp (by rw[ql,g.pn (by lia) (by lia) (by lia)];rfl);have sz:r.ns.length=m+2:=sz;have hz:(((r.ns.map nW++qs.map pW).map V.str).length:Int)=(m:Int)+2:=by rw[tl,sz,q0];push_cast;rfl
   have ht':=ht;rw[q0,qEn,qCl] at ht';rw[hk];refine⟨_,rfl,rfl,_,rfl,bK ?_⟩;dsimp only[bR];refine⟨_,rfl,rfl,_,rfl,bK ?_⟩;dsimp only[bR];refine⟨_,rfl,rfl,_,rfl,bK ?_⟩;dsimp only[bR];refine⟨_,rfl,rfl,_,rfl,dG ?_⟩;refine⟨_,rfl,lt,_,rfl,.inl (aV.of ht),_,rfl,_,_,rfl,rfl,rfl,_,rfl,cU (fun _=>?_) (fun h=>absurd (decide_eq_true (congrArg V.int hz)) h)⟩;refine⟨_,rfl,lt,r.ns,rfl,ht',by lia,g.nb,fun ln H2 hln s2 hn2=>?_⟩;dsimp only[bC];have at1:fM (r.ns.map V.int) 1=some (.int (r.ns.getD 1 0)):=fZ (j:=1) (by lia);have at0:fM (r.ns.map V.int) 0=some (.int (r.ns.getD 0 0)):=fZ (j:=0) (by lia);have dl:(r.ns.drop 2).length=m:=by rw[qDn];lia
   refine⟨_,rfl,ln,_,_,_,rfl,rfl,aV.of hn2,at0,_,rfl,ln,_,_,_,rfl,rfl,aV.of hn2,at1,_,rfl,2,rfl,ln,_,rfl,aV.of hn2,fun lw hlw=>?_⟩;have ec2:gH (r.ns.map V.int) (some 2) none=(r.ns.drop 2).map V.int:=by rw[show(2:Int)=((2:Nat):Int) from rfl,kU,<- qIv]
   rw[ec2];refine fun x dx hx hd ne=>Eb hx hd ne aC (g.q1 hk) (by lia) (by lia) fun l' H5 hl' s5 hx5 hl5=>⟨rfl,?_⟩;have u2:=(u1.trans s2).trans (aJ.aI (o:=.lst ((r.ns.drop 2).map V.int)) hlw);rw[dl] at hx5;exact k x H5 (u2.trans s5) fun H'' nk=>(Ei T Z g hk m1 m6 hx5 hl5).nk (fun b hb=>u2.free (by rcases List.mem_cons.mp hb with z | z;rw[z];exact hx;rw[List.mem_singleton.mp z];exact hl')) nk
  .rw[hk] at sz;have n0:r.ns=[]:=List.length_eq_zero_iff.mp sz;have ht':=ht;rw[n0,qEn,qFo] at ht';rw[hk];refine⟨_,rfl,rfl,_,rfl,bK ?_⟩;dsimp only[bR];refine⟨_,rfl,rfl,_,rfl,bK ?_⟩;dsimp only[bR];refine⟨_,rfl,rfl,_,rfl,bK ?_⟩;dsimp only[bR];refine⟨_,rfl,rfl,_,rfl,bK ?_⟩;dsimp only[bR];refine⟨_,rfl,rfl,_,rfl,dG ?_⟩;refine⟨_,rfl,_,rfl,lt,qs,rfl,ht',by lia,q6,fun ln as H2 hln s2 hn2 a2=>?_⟩;have ok:=mC a2 pm g.qI g.pb g.pl;refine fun x dx hx hd ne=>Ed hx hd ne hn2 ok a2 m1 m6 fun l' lb bs ps' H5 hl' hlb s5 pm5 srt5 a5 mo hx5 hl5=>⟨rfl,?_⟩;have u2:=u1.trans s2;obtain rfl:=jX srt5 g.qI (pm5.trans pm);obtain⟨dy,hx5⟩:=hx5;exact k x H5 (u2.trans s5) fun H'' nk=>(Ek T Z g hk m6 hx5 hl5 a5 mo).nk (fun b hb=>u2.free (by
    rcases List.mem_cons.mp hb with z | z
    .rw[z];exact hx
    .rcases List.mem_cons.mp z with z | z
     .rw[z];exact hl'
     .rw[List.mem_singleton.mp z];exact hlb)) nk
  .rw[hk] at sz;have sz:r.ns.length=m:=sz;have hge:(((r.ns.map nW++qs.map pW).map V.str).length:Int)≥(m:Int):=by rw[tl,sz];lia
   obtain⟨c0,r0⟩:=g.n0 hk;rw[hk];refine⟨_,rfl,rfl,_,rfl,bK ?_⟩;dsimp only[bR];refine⟨_,rfl,rfl,_,rfl,bK ?_⟩;dsimp only[bR];refine⟨_,rfl,rfl,_,rfl,bK ?_⟩;dsimp only[bR];refine⟨_,rfl,rfl,_,rfl,bK ?_⟩;dsimp only[bR];refine⟨_,rfl,rfl,_,rfl,bK ?_⟩;dsimp only[bR];refine⟨_,rfl,rfl,_,rfl,dG ?_⟩;refine⟨_,rfl,lt,_,rfl,.inl (aV.of ht),_,rfl,_,_,rfl,rfl,_,rfl,cU (fun _=>?_) (fun h=>absurd (decide_eq_true hge) h)⟩;have et:gH ((r.ns.map nW++qs.map pW).map V.str) none (some (m:Int))=(r.ns.map nW).map V.str:=by
    rw[zC,<- qNj,List.take_left' (by rw[qAa];exact sz)]
   have ed:gH ((r.ns.map nW++qs.map pW).map V.str) (some (m:Int)) none=(qs.map pW).map V.str:=by
    rw[kU,<- qIv,List.drop_left' (by rw[qAa];exact sz)]
   refine⟨_,rfl,_,rfl,(m:Int),rfl,lt,_,rfl,aV.of ht,fun l1 hl1=>?_⟩;rw[et];refine⟨l1,r.ns,rfl,aC,by lia,g.nb,fun lc H2 hlc s2 hc2=>?_⟩;have u2:=u1.trans ((aJ.aI (o:=.lst ((r.ns.map nW).map V.str)) hl1).trans s2);have ht2:=s2 _ _ (aJ.aI (o:=.lst ((r.ns.map nW).map V.str)) hl1 _ _ ht);refine⟨_,rfl,_,rfl,(m:Int),rfl,lt,_,rfl,aV.of ht2,fun l3 hl3=>?_⟩;rw[ed];have u3:=aJ.aI (o:=.lst ((qs.map pW).map V.str)) hl3;refine⟨l3,qs,rfl,aC,by lia,q6,fun lp as H4 hlp s4 hp4 a4=>?_⟩;have u4:=u3.trans s4;have ok:fD r.ns.length H4 as:=by rw[sz];exact mC a4 pm g.qI g.pb g.pl
   refine fun x dx hx hd ne=>Ee hx hd ne (u4 _ _ hc2) (by lia) (by lia) c0 hp4 ok a4 (fun q hq=>r0 q (pm.mem_iff.mp hq)) fun l' lr rs' H5 hl' hlr s5 pm5 srt5 no=>⟨rfl,?_⟩;have u5:=u2.trans u4;rw[jX srt5 g.qI (pm5.trans pm)] at no;exact k x H5 (u5.trans s5) fun H'' nk=>(Lj T Z g hk m6 no).nk (fun b hb=>u5.free (by
    rcases List.mem_cons.mp hb with z | z
    .rw[z];exact hx
    .rcases List.mem_cons.mp z with z | z
     .rw[z];exact hl'
     .rw[List.mem_singleton.mp z];exact hlr)) nk
  .rw[hk] at sz;have q0:qs=[]:=List.length_eq_zero_iff.mp (by rw[ql,g.pn (by lia) (by lia) (by lia)];rfl);have sz:r.ns.length=2^m-1:=sz;have hz:(((r.ns.map nW++qs.map pW).map V.str).length:Int)=((2^m:Nat):Int)-1:=by rw[tl,sz,q0];show((2^m-1:Nat):Int)=_;lia
   have ht':=ht;rw[q0,qEn,qCl] at ht';have hn:(0::r.ns).length=2^m:=by rw[qAw];lia
   rw[hk];refine⟨_,rfl,rfl,_,rfl,bK ?_⟩;dsimp only[bR];refine⟨_,rfl,rfl,_,rfl,bK ?_⟩;dsimp only[bR];refine⟨_,rfl,rfl,_,rfl,bK ?_⟩;dsimp only[bR];refine⟨_,rfl,rfl,_,rfl,bK ?_⟩;dsimp only[bR];refine⟨_,rfl,rfl,_,rfl,bK ?_⟩;dsimp only[bR];refine⟨_,rfl,rfl,_,rfl,bK ?_⟩;dsimp only[bR];refine⟨_,rfl,rfl,_,rfl,dG ?_⟩;have hat:fM (lT.map V.int) (m:Int)=some (.int ((2^m:Nat):Int)):=by
    have:∀m:_root_.Fin 7,(lT.map V.int)[m.1]?=some (.int ((2^m.1:Nat):Int)):=by decide
    exact bS (this ⟨m,by lia⟩)
   refine⟨_,rfl,lt,_,rfl,.inl (aV.of ht),_,rfl,LN,_,_,_,rfl,rfl,T.ln _,hat,_,_,rfl,rfl,rfl,_,rfl,cU (fun _=>?_) (fun h=>absurd (decide_eq_true (congrArg V.int hz)) h)⟩;refine⟨mH,fun lz hlz=>?_⟩;have uz:=aJ.aI (o:=.lst [V.int 0]) hlz;refine⟨_,rfl,lt,r.ns,rfl,uz _ _ ht',by lia,g.nb,fun ln H2 hln s2 hn2=>?_⟩;refine⟨lz,ln,_,_,rfl,rfl,aV.of (s2 _ _ aC),aV.of hn2,(by rw[qAa];exact qBb (aO (by show 1+_<=_;lia))),fun l2 hl2=>?_⟩;rw[show [V.int 0]++r.ns.map V.int=(0::r.ns).map V.int from rfl];have u2:=(u1.trans (uz.trans s2)).trans (aJ.aI (o:=.lst ((0::r.ns).map V.int)) hl2);refine fun x dx hx hd ne=>wX hx hd ne aC hn m1 m6 fun l' H5 hl' s5 hx5 hl5=>⟨rfl,?_⟩;exact k x H5 (u2.trans s5) fun H'' nk=>(xA T Z g hk m1 m6 hx5 hl5).nk (fun b hb=>u2.free (by rcases List.mem_cons.mp hb with z | z;rw[z];exact hx;rw[List.mem_singleton.mp z];exact hl')) nk
theorem Hw:∀{as:List Addr}{xs:List α},as.length=xs.length->(∀(i:Nat) (a:Addr) (x:α),as[i]?=some a->xs[i]?=some x->R a x)->A2 R as xs
 | [],[],_,_=>.nil
 | a::as,[],h,_=>by cases h
 | [],x::xs,h,_=>by cases h
 | a::as,x::xs,h,k=>.cons (k 0 a x rfl rfl) (Hw (by simpa using h) fun i b y e1 e2=>k (i+1) b y e1 e2)
def PF(P:qBl)(w:qCr)(K:qAb)(mg:Str->Option qAi)(base:Heap)(fE fH RU CO:Addr)(H:Hp)(c:Addr)(m:Nat)(rs:List R4):Prop:=∃os:List Ru,wZ P w K mg base fE fH RU CO H c m os/\os.length=rs.length/\∀(i:Nat) (o:Ru) (r:R4),os[i]?=some o->rs[i]?=some r->kW P w K mg base H o.1 (dZ r)/\(∀g,o.2.2 g=eS r g)
theorem Pg(h:A2 (fun x r=>zJ P w K mg base fE fH RU H x m r) xs rs):∃os:List Ru,xs.map V.ref=refs os/\(∀o∈os,o.2.1=m)/\nU P w K mg base fE fH RU H os/\os.length=rs.length/\∀(i:Nat) (o:Ru) (r:R4),os[i]?=some o->rs[i]?=some r->kW P w K mg base H o.1 (dZ r)/\(∀g,o.2.2 g=eS r g):=by
 induction h with
 | nil=>exact⟨[],rfl,(fun o ho=>by cases ho),(fun o ho=>by cases ho),rfl,(fun i o r e=>by cases e)⟩
 | @cons x r xs rs ob _ ih =>
  obtain⟨os,e1,e2,e3,e4,e5⟩:=ih;obtain⟨e,h1,h2,h3⟩:=ob;refine⟨(x,m,e)::os,by rw[qBa,e1];rfl,fun o ho=>?_,fun o ho=>?_,by rw[qAw,qAw,e4],fun i o r' a b=>?_⟩
  .rcases List.mem_cons.mp ho with z | z
   .rw[z]
   .exact e2 o z
  .rcases List.mem_cons.mp ho with z | z
   .rw[z];exact h1
   .exact e3 o z
  .cases i with
   | zero=>cases a;cases b;exact⟨h2,h3⟩
   | succ i=>exact e5 i o r' a b
def Hy(P:qBl)(w:qCr)(K:qAb)(mg:Str->Option qAi)(base:Heap)(fE fH RU CO:Addr):Sp:=fun vs H Q _=>∃(m:Nat) (rs:List (R4×List P3)),vs=[.str (Gi m (rs.map fun q=>qB q.1 q.2))]/\(∀q∈rs,GoodR m q.1/\q.2.Perm q.1.ps)/\rs.length<=12/\1<=m/\m<=6/\∀c H',aJ H H'->PF P w K mg base fE fH RU CO H' c m (rs.map fun q=>q.1)->Q (.ref c) H'
theorem xB:∀(ps:List Str),c∈(Str.join y ps).cps.toList->c∈y.cps.toList\/∃p∈ps,c∈p.cps.toList
 | [],h=>by cases h
 | [p],h=>.inr ⟨p,qBn,h⟩
 | p::q::t,h=>by
  have h:c∈(p++y++Str.join y (q::t)).cps.toList:=h;rw[Str.cps_append,Str.cps_append,qDk,qDk,qHv,qHv] at h;rcases h with (h | h) | h
  .exact .inr ⟨p,qBn,h⟩
  .exact .inl h
  .rcases xB (q::t) h with h | ⟨s,hs,h⟩
   .exact .inl h
   .exact .inr ⟨s,qAs _ hs,h⟩
theorem oT:∀{k:Nat},k<7->32∉(gA k).cps.toList/\59∉(gA k).cps.toList/\(gA k).length<=5
 | 0,_=>by decide +kernel
 | 1,_=>by decide +kernel
 | 2,_=>by decide +kernel
 | 3,_=>by decide +kernel
 | 4,_=>by decide +kernel
 | 5,_=>by decide +kernel
 | 6,_=>by decide +kernel
 | k+7,h=>absurd h (by lia)
theorem Gn(hc:c≠45/\(c<48\/58<c)){p:P3}(h1:p.1<6)(h2:p.2.1<6):c∉(pW p).cps.toList:=by
 rw[sT h1 h2];intro h;rcases List.mem_append.mp h with h | h
 .simp only[qEe,qCs,or_false] at h;lia
 .exact t5 ⟨hc.1,by lia⟩ _ h
theorem qC(hc:c≠45/\(c<48\/58<c)){m:Nat}{r:R4}{qs:List P3}(g:GoodR m r)(m6:m<=6)(pm:qs.Perm r.ps):∀s∈r.ns.map nW++qs.map pW,c∉s.cps.toList:=fun s hs=>by
 rcases List.mem_append.mp hs with h | h
 .obtain⟨n,_,rfl⟩:=List.mem_map.mp h;exact t5 ⟨hc.1,by lia⟩ n
 .obtain⟨p,hp,rfl⟩:=List.mem_map.mp h;obtain⟨a,b,_⟩:=g.p6 m6 p (pm.mem_iff.mp hp);exact Gn hc a b
theorem Em(g:GoodR m r)(m6:m<=6)(pm:qs.Perm r.ps):Txt.split (qB r qs) (" ":Str)=gA r.k::(r.ns.map nW++qs.map pW):=by
 refine pP (c:=32) (r:=[]) rfl #[2] (fun z=>nomatch z) fun s hs=>?_;rcases List.mem_cons.mp hs with rfl | hs
 .exact(oT g.k7).1
 .exact qC #[1] g m6 pm s hs
theorem Gp(g:GoodR m r)(m6:m<=6)(pm:qs.Perm r.ps):59∉(qB r qs).cps.toList:=by
 intro h;delta qB uT at h;rw[show Txt.join (" ":Str) (gA r.k::(r.ns.map nW++qs.map pW))=Str.join (" ":Str) _ from StrLaws.glued_eq_join _ _] at h;rcases xB _ h with h | ⟨s,hs,h⟩
 .exact absurd h #[2]
 .rcases List.mem_cons.mp hs with rfl | hs
  .exact(oT g.k7).2.1 h
  .exact qC #[1] g m6 pm s hs h
theorem qD(g:GoodR m r)(m6:m<=6)(pm:qs.Perm r.ps):(qB r qs).length<=20000:=by
 delta qB uT;rw[show Txt.join (" ":Str) (gA r.k::(r.ns.map nW++qs.map pW))=Str.join (" ":Str) _ from StrLaws.glued_eq_join _ _];refine qAx (StrLaws.join_length_le _ _) ?_;have h0:=(oT g.k7).2.2;have hs:∀s∈r.ns.map nW++qs.map pW,s.length<=185:=fun s hs=>by
  rcases List.mem_append.mp hs with h | h
  .exact p8 g.Ap s h
  .exact qA (fun q hq=>g.Pd m6 q (pm.mem_iff.mp hq)) s h
 have a:=mB hs;have n63:=g.zI m6;have p15:=g.pl;have ql:=pm.length_eq;have e:(" ":Str).length=1:=rfl;rw[qAo,qAa,qAa] at a;rw[qBa,qCh,qAw,qAo,qAa,qAa,e];lia
theorem cw_split{m:Nat}{rs:List (R4×List P3)}(m6:m<=6)(g:∀q∈rs,GoodR m q.1/\q.2.Perm q.1.ps):Txt.split (Gi m (rs.map fun q=>qB q.1 q.2)) ("; ":Str)=(("hands ":Str)++nW (m:Int))::rs.map fun q=>qB q.1 q.2:=by
 refine pP (c:=59) (r:=[32]) rfl #[2] (fun z=>nomatch z) fun s hs=>?_;rcases List.mem_cons.mp hs with rfl | hs
 .intro h;rw[Str.cps_append,qDk,qHv] at h;rcases h with h | h
  .exact absurd h #[2]
  .exact t5 #[1] _ h
 .obtain⟨q,hq,rfl⟩:=List.mem_map.mp hs;exact Gp (g q hq).1 m6 (g q hq).2
theorem cw_len{m:Nat}{rs:List (R4×List P3)}(m6:m<=6)(g:∀q∈rs,GoodR m q.1/\q.2.Perm q.1.ps)(h12:rs.length<=12):(Gi m (rs.map fun q=>qB q.1 q.2)).length<=1000000:=by
 delta Gi;rw[show Txt.join ("; ":Str) ((("hands ":Str)++nW (m:Int))::rs.map fun q=>qB q.1 q.2)=Str.join ("; ":Str) _ from StrLaws.glued_eq_join _ _];refine qAx (StrLaws.join_length_le _ _) ?_;have a:=mB (B:=20000) (ss:=rs.map fun q=>qB q.1 q.2) fun s hs=>by
  obtain⟨q,hq,rfl⟩:=List.mem_map.mp hs;exact qD (g q hq).1 m6 (g q hq).2
 have l1:=eY (i:=(m:Int)) (qBi (show(m:Int).natAbs<=6 by lia) #[2]);have e:("; ":Str).length=2:=rfl;have e6:("hands ":Str).length=6:=rfl;rw[qAa] at a;rw[qBa,qCh,qAw,qAa,Str.length_append,e,e6];lia
theorem sU:aN ["text","parts","many","rules","place","part"] ["text"] (aH Jw):=#[1,2]
theorem Lm{f1 f2:Addr}{fd1 fd2:qCi}(t:Tx K mg "read" Jw ["text"] f fd)(T:#[4])(D_many_of:#[5] 1 "many_of" ["part"] (Hu K) f1 fd1)(D_rule_of:#[5] 9 "rule_of" ["many","words"] (El P w K mg base fE fH RU) f2 fd2)
  (D_CI:#[1,0] 4 ["self","many","rules"] (Gh P w K mg base fE fH RU CO NL) iC):#[5] 10 "read" ["text"] (Hy P w K mg base fE fH RU CO) f fd:=by
 refine t.jI sU (by rintro _ _ _ _⟨m,rs,rfl,_⟩;rfl) fun _ _ _ _ H vs Q E hr h=>?_;obtain⟨m,rs,rfl,g,r12,m1,m6,k⟩:=h;obtain⟨tkMR,hMR⟩:=T.mr;refine⟨_,(aD (bB (i:=1) sU.nd rfl cC (eD qCc qKi qKg sG (pv 0) (aA aY aB)))
  (aD (bB (i:=2) sU.nd rfl cC (bH D_many_of hr #[1] #[0] (aA (aX bF (pv 1) aE #[6]) aB)))
  (aD (bB (i:=3) sU.nd rfl cC (bO aB))
  (aD (dJ #[9] rfl (Dw #[0] T.jE (aA (dP gP (pv 1) (eQ aE) eP) aB) aE) (eL rfl (bA (aK (i:=4) sU.nd rfl cC) (bA (aK (i:=5) sU.nd rfl cC) dC)))
   (aD (bN (aP vC (pv 4) (cB (v:=.int 12) #[0] hMR ⟨tkMR,rfl⟩) (aT _)) (aG j8) aZ)
   (aG (Fv (tb:=fun Ex=>GB (Qj K "list" tK (tD 3) (lB (Cq (El P w K mg base fE fH RU) [] E0 (lB (tD 2) (lB (Qj K "str" Dq (tD 5) (lB (tC (V.str (" ":Str))) kD)) kD))) kD))) (fun pins Ex=>(aG (bQ (eD qCp qCk qCj dN (pv 3) (aA (bH D_rule_of hr #[1] #[0] (aA (pv 2) (aA (eD qCc qKi qKg sG (pv 5) (aA aY aB)) aB))) aB)))))))))
  (aG (aS (eN bY T.RT D_CI hr #[1] #[0] T.Mr (aA (pv 2) (aA (pv 3) aB))))))))),?_⟩
 have cl:=cw_len m6 g r12;have cs:=cw_split m6 g;obtain⟨xs,hxs⟩:∃xs:List Str,xs=rs.map fun q=>qB q.1 q.2:=⟨_,rfl⟩;have xl:xs.length=rs.length:=by rw[hxs,qAa]
 rw[<- hxs] at cs cl|-;generalize Gi m xs=tx at cl cs|-;refine⟨_,rfl,rfl,tx,("; ":Str),rfl,rfl,rfl,qAx (qLp cl 2) #[1],fun lp hlp=>?_⟩;rw[cs];have u1:=aJ.aI (o:=.lst (((("hands ":Str)++nW (m:Int))::xs).map V.str)) hlp;have h1:upd H lp (.lst (((("hands ":Str)++nW (m:Int))::xs).map V.str)) lp=some (.lst (((("hands ":Str)++nW (m:Int))::xs).map V.str)):=aC;generalize upd H lp (.lst (((("hands ":Str)++nW (m:Int))::xs).map V.str))=H1 at u1 h1|-;dsimp only[bC];exists _,rfl,lp,_,_,_,rfl,rfl,aV.of h1,bS (j:=0) rfl,m,rfl,m1,m6;dsimp only[bC];refine⟨by show 0<=qAg;decide,fun lr hlr=>?_⟩;have u2:=aJ.aI (o:=.lst []) hlr;have h2:upd H1 lr (.lst []) lr=some (.lst ((([]:List Addr)).map V.ref)):=aC;have flr:H1 lr=none:=hlr;generalize upd H1 lr (.lst [])=H2 at u2 h2|-;dsimp only[bC];refine cI (σ':=[some (.str tx),some (.ref lp),some (.int (m:Int)),some (.ref lr),none,none]) rfl ?_;refine⟨_,rfl,1,rfl,lp,_,rfl,aV.of (u2 _ _ h1),fun lq hlq=>?_⟩;have ec:gH (((("hands ":Str)++nW (m:Int))::xs).map V.str) (some 1) none=xs.map V.str:=kU (((("hands ":Str)++nW (m:Int))::xs).map V.str) 1;rw[ec];have u3:=aJ.aI (o:=.lst (xs.map V.str)) hlq;have h3:upd H2 lq (.lst (xs.map V.str)) lq=some (.lst (xs.map V.str)):=aC;have hr3:=u3 _ _ h2;have nq:lq≠lr:=(bG h2 hlq).symm;generalize upd H2 lq (.lst (xs.map V.str))=H3 at u3 h3 hr3|-;exists lq,rfl,⟨_,aV.of h3⟩;refine Bo (xs:=xs.map V.str) (fun i σ' H'=>aJ H1 H'/\H' lq=some (.lst (xs.map V.str))/\∃(ys:List Addr) (o4 o5:Option V),ys.length=i/\H' lr=some (.lst (ys.map V.ref))/\(∀(j:Nat) (y:Addr),ys[j]?=some y->∃q:R4×List P3,rs[j]?=some q/\∀H'',(∀b o,b≠lr->H' b=some o->H'' b=some o)->zJ P w K mg base fE fH RU H'' y m q.1)/\σ'=[some (.str tx),some (.ref lp),some (.int (m:Int)),some (.ref lr),o4,o5]) ⟨u2.trans u3,h3,[],_,_,rfl,hr3,(fun j y e=>by cases e),rfl⟩ (fun i σ' H' _ hp=>aV.of hp.2.1) ?_ ?_
 .rintro i x t σ' H4 hx ht ⟨u4,h4,ys,o4,o5,yl,hr4,hy,rfl⟩;have hi:i<rs.length:=by
   obtain⟨z,_⟩:=List.getElem?_eq_some_iff.mp hx;rw[qAa,xl] at z;exact z
  have hq:rs[i]?=some rs[i]:=qAc hi;obtain rfl:x=V.str (qB rs[i].1 rs[i].2):=by
   rw[hxs,qAf,qAf,hq] at hx;exact(Option.some.inj hx).symm
  obtain⟨gr,pm⟩:=g rs[i] (qDm hi);have wd:=Em gr m6 pm;have wl:=qD gr m6 pm;have v5:=aJ.aI (o:=.tup [V.int ((i:Int)+1),V.str (qB rs[i].1 rs[i].2)]) ht;have ht5:upd H4 t (.tup [V.int ((i:Int)+1),V.str (qB rs[i].1 rs[i].2)]) t=some (.tup [V.int ((i:Int)+1),V.str (qB rs[i].1 rs[i].2)]):=aC;generalize upd H4 t (.tup [V.int ((i:Int)+1),V.str (qB rs[i].1 rs[i].2)])=H5 at v5 ht5|-;exists t,_,rfl,cQ.of ht5,rfl,_,_,rfl,_,_,rfl,rfl;refine⟨_,rfl,_,_,rfl,rfl,_,rfl,cU (fun h=>absurd (of_decide_eq_true h) (by lia)) (fun _=>?_)⟩;have hr5:=v5 _ _ hr4;refine⟨_,rfl,.inl ⟨rfl,_,aV.of hr5⟩,_,rfl,_,rfl,rfl,_,(" ":Str),rfl,rfl,rfl,qAx (qLp wl 2) #[1],fun lw hlw=>?_⟩;rw[wd];have v6:=aJ.aI (o:=.lst ((gA rs[i].1.k::(rs[i].1.ns.map nW++rs[i].2.map pW)).map V.str)) hlw;refine⟨lw,m,rs[i].1,rs[i].2,rfl,aC,pm,gr,m1,m6,fun y H7 s7 nk=>?_⟩;have u57:=v6.trans s7;have hr6:=v6 _ _ hr5;have hr7:=s7 _ _ hr6;refine⟨lr,_,_,rfl,rfl,hr7,by rw[qAa];exact aO (by lia),?_⟩;have kp:∀b o,b≠lr->H7 b=some o->upd H7 lr (.lst (ys.map V.ref++[V.ref y])) b=some o:=fun b o n e=>by rw[aQ n];exact e
  refine⟨(u4.trans (v5.trans u57)).upd_ne' flr,kp _ _ nq (u57 _ _ (v5 _ _ h4)),ys++[y],_,_,by rw[qAo,yl];rfl,by rw[aC,qBw];rfl,fun j z e=>?_,rfl⟩;rcases qBj j ys.length with hj | hj
  .rw[qBu hj] at e;obtain⟨q,hq',ob⟩:=hy j z e;exact⟨q,hq',fun H'' kk=>ob H'' fun b o n e=>kk b o n (kp b o n (u57 _ _ (v5 _ _ e)))⟩
  .rw[qCd hj] at e;have:j-ys.length=0:=by
    obtain⟨w1,_⟩:=List.getElem?_eq_some_iff.mp e;have w1:j-ys.length<1:=w1;lia
   rw[this] at e;cases e;refine⟨rs[i],by rw[show j=i by lia];exact hq,fun H'' kk=>nk H'' fun b o hb e=>kk b o (fun z=>?_) (kp b o (fun z=>?_) e)⟩
   .rcases hb with hb | ⟨us,rfl⟩
    .rw[z,hr6] at hb;cases hb
    .rw[z,hr7] at e;cases e
   .rcases hb with hb | ⟨us,rfl⟩
    .rw[z,hr6] at hb;cases hb
    .rw[z,hr7] at e;cases e
 .rintro σ' H4 ⟨u4,h4,ys,o4,o5,yl,hr4,hy,rfl⟩;rw[qAa,xl] at yl;have a2:A2 (fun x r=>zJ P w K mg base fE fH RU H4 x m r) ys (rs.map fun q=>q.1):=Hw (by rw[qAa];exact yl) fun j y r e1 e2=>by
   obtain⟨q,hq,ob⟩:=hy j y e1;rw[qAf,hq] at e2;cases e2;exact ob H4 fun b o _ e=>e
  obtain⟨os,e1,e2,e3,e4,e5⟩:=Pg a2;rw[e1] at hr4;rw[qAa] at e4;refine⟨_,rfl,_,rfl,fun c dc hc hdc ne=>Ao hc hdc ne hr4 (by lia) e3 e2 m1 m6 fun lc H6 hlc s6 hc6 hlc6=>⟨rfl,?_⟩⟩;refine k c H6 ((u1.trans u4).trans s6) ⟨os,⟨dc,lc,hc6,hlc6,by lia,m1,m6,e3.same s6,e2⟩,by rw[qAa];exact e4,fun i o r a b=>?_⟩;exact⟨(e5 i o r a b).1.same s6,(e5 i o r a b).2⟩
theorem Gq(h:j<n):Ct n (j:Int)=some j:=by
 delta Ct;rw[if_pos (by lia),if_pos (by lia)];congr 1
theorem xC:(0:Int)<10^20+39:=by decide
theorem En(i:Int):zX i (10^20+39):=⟨by decide,qAr (show(10^20+39:Int).natAbs<2^70 by decide) (qBt #[1] #[1])⟩
theorem xD{C:List Int}{j:Nat}(h:j<C.length):fM (C.map V.int) (j:Int)=some (.int (C.getD j 0)):=bS (by rw[qAf,qAj,qAc h];rfl)
def Hz(K:qAb):Sp:=fun vs H Q _=>∃(a:Addr) (ns:List Int),vs=[.ref a]/\aV K H a (ns.map V.int)/\ns.length<=63/\∀(l:Addr) (D:List Int) (H':Hp),H l=none->aJ H H'->64<=D.length->D.length<=127->H' l=some (.lst (D.map V.int))->Q (.ref l) H'
theorem mD:aN ["_law_script","_law_cells","_law_many","_law_base","_law_draws_here","_law_left_here","_law_k","_law_number_here"] ["_law_script"] (aH Jz):=#[1,2]
theorem Ln(t:Tx K mg "_law_draws" Jz ["_law_script"] f fd)(T:#[4]):#[5] 1 "_law_draws" ["_law_script"] (Hz K) f fd:=by
 refine t.jI mD (by rintro _ _ _ _⟨a,ns,rfl,_⟩;rfl) fun _ _ _ _ H vs Q E hr h=>?_;obtain⟨a,ns,rfl,hq,hns,k⟩:=h;refine⟨_,(aD (bB (i:=1) mD.nd rfl cC (aL cX (pv 0) (aL Cw (bO (aA aE aB)) (bW gE #[0] T.hW iD (aA (dD (CI hr.units) (pv 0) (bO aB) (aT _)) aB)))))
  (aD (bB (i:=2) mD.nd rfl cC (aM (mO rfl) #[0] T.nQ tS (aA aE (aA (aM aU #[0] T.cG bV (aA (pv 1) aB)) aB))))
  (aD (bB (i:=3) mD.nd rfl cC (aL cR (aL xY aE aE) aE))
  (aD (bB (i:=4) mD.nd rfl cC (bO aB))
  (aD (bN (aP bU (aL dM (aX bF (pv 1) aE #[6]) aE) aE (aT _)) (aD (bB (i:=5) mD.nd rfl cC (aL cX (bO (aA (aL iY (aX bF (pv 1) aE #[6]) aE) aB)) (dP gP (pv 1) (eQ aE) eP)))
   (aD (oY #[9] (aP jM (aM aU #[0] T.cG bV (aA (pv 4) aB)) (pv 2) (aT _))
    (aG (dJ #[9] rfl (c8 #[0] T.cO (aA (aM aU #[0] T.cG bV (aA (pv 1) aB)) aB)) (aK (i:=6) mD.nd rfl cC)
     (aD (bQ (eD qCp qCk qCj dN (pv 4) (aA (aL dM (aX bF (pv 5) (pv 6) #[6]) (pv 3)) aB)))
     (aG (xU (aL CK (aX bF (pv 5) (pv 6) #[6]) (pv 3)) (Ce (pv 5) (pv 6) set_list)))))))
   (aG (aS (pv 4))))) aZ)
  (aD (dJ #[9] rfl (c8 #[0] T.cO (aA (pv 2) aB)) (aK (i:=6) mD.nd rfl cC)
   (aD (bB (i:=7) mD.nd rfl cC (aL dM (aL lK (aL cR (aL cR (aX bF (pv 1) (aL dM (pv 6) (aM aU #[0] T.cG bV (aA (pv 1) aB))) #[6]) (aL lK (aL lK aE (pv 6)) (pv 6))) aE) aE) aE))
   (aG (bQ (eD qCp qCk qCj dN (pv 4) (aA (aL dM (aL lK (aL lK (pv 7) (pv 7)) aE) (pv 3)) aB))))))
  (aG (aS (pv 4))))))))),?_⟩
 refine⟨_,rfl,mH,fun a1 ha1=>?_⟩;have u1:=aJ.aI (o:=.lst [.int 0]) ha1;have e1:upd H a1 (.lst [.int 0]) a1=some (.lst [.int 0]):=aC;generalize upd H a1 (.lst [.int 0])=H1 at u1 e1|-;refine⟨_,rfl,by show 0<=qAg;decide,fun a2 ha2=>?_⟩;have u2:=aJ.aI (o:=.lst []) ha2;have e2:upd H1 a2 (.lst []) a2=some (.lst (([]:List Int).map V.int)):=aC;generalize upd H1 a2 (.lst [])=H2 at u2 e2|-;have hq2:aV K H2 a (ns.map V.int):=(u1.trans u2).seq hq;refine⟨a,a2,ns,[],rfl,rfl,hq2,aV.of e2,.inr ⟨_,rfl,?_⟩⟩;have e1':=u2 _ _ e1;obtain⟨C0,hC0⟩:∃C0:List Int,(qBq (if decide (ns=[])=true then (1:Int) else 0).toNat [V.int 0]).flatten=C0.map V.int/\C0.length<=1/\(ns=[]->C0.length=1):=by
  by_cases e:ns=[]
  .exact⟨[0],by rw[decide_eq_true e,if_pos rfl];rfl,by decide,fun _=>rfl⟩
  .exact⟨[],by rw[decide_eq_false e,if_neg (by decide)];rfl,by decide,fun z=>absurd z e⟩
 refine⟨a1,_,_,rfl,rfl,e1',?_,?_,?_,fun a3 ha3=>?_⟩
 .show -(2^63)<=(if decide (ns=[])=true then (1:Int) else 0);split <;> decide
 .show(if decide (ns=[])=true then (1:Int) else 0)<2^63;split <;> decide
 .show 1*(if decide (ns=[])=true then (1:Int) else 0).toNat<=qAg;split <;> decide
 have hC1:(qBq (if id (decide (ns=[]))=true then (1:Int) else 0).toNat [V.int 0]).flatten=C0.map V.int:=hC0.1;rw[hC1];have u3:=aJ.aI (o:=.lst (C0.map V.int)) ha3;have e3:upd H2 a3 (.lst (C0.map V.int)) a3=_:=aC;generalize upd H2 a3 (.lst (C0.map V.int))=H3 at u3 e3|-;refine⟨a,a3,_,_,rfl,rfl,u3.seq hq2,aV.of e3,by rw[qAa,qAa];exact qBb (aO (by lia)),fun lc hlc=>?_⟩;rw[<- qBw];have hc1:1<=(ns++C0).length:=by
  rw[qAo];by_cases e:ns=[]
  .have:=hC0.2.2 e;lia
  .have:=List.length_pos_iff.mpr e;lia
 have hc2:(ns++C0).length<=63:=by
  rw[qAo];by_cases e:ns=[]
  .rw[e];have:=hC0.2.1;show 0+_<=_;lia
  .have e0:C0=[]:=by
    have z:=hC0.1;rw[decide_eq_false e,if_neg (by decide)] at z;cases C0 with
    | nil=>rfl
    | cons _ _=>cases z
   rw[e0];exact hns
 generalize ns++C0=C at hc1 hc2|-;have u4:=aJ.aI (o:=.lst (C.map V.int)) hlc;have kc:upd H3 lc (.lst (C.map V.int)) lc=_:=aC;generalize upd H3 lc (.lst (C.map V.int))=H4 at u4 kc|-;have s4:=u1.trans (u2.trans (u3.trans u4));exists _,rfl,lc,_,rfl,.inl (aV.of kc),64,_,rfl;have em:(if (((C.map V.int).length:Nat):Int)>64 then (((C.map V.int).length:Nat):Int) else 64)=64:=by
  rw[qAa,if_neg (by lia)]
 show bC 2 (V.int (if (((C.map V.int).length:Nat):Int)>64 then (((C.map V.int).length:Nat):Int) else 64)) _ _ _;rw[em];exists _,_,rfl,rfl,⟨by decide,by decide,by decide⟩,_,_,rfl,rfl;show bC 3 (V.int (10^20+39)) _ _ _;refine⟨by show 0<=qAg;decide,fun l hl=>?_⟩;have l0:H l=none:=s4.free hl;have u5:=aJ.aI (o:=.lst []) hl;have kd:upd H4 l (.lst []) l=some (.lst (([]:List Int).map V.int)):=aC;have ncl:lc≠l:=bG kc hl;have kc5:=u5 _ _ kc;generalize upd H4 l (.lst [])=H5 at u5 kd kc5|-;have s5:=s4.trans u5;have c0:=xD (C:=C) (j:=0) (by lia);refine⟨_,rfl,lc,_,_,_,rfl,rfl,aV.of kc5,c0,_,_,rfl,rfl,(by show(0:Int)<2;decide),rfl,_,rfl,cU (fun _=>?_) (fun _=>?_)⟩
 .refine⟨_,rfl,lc,_,_,_,rfl,rfl,aV.of kc5,c0,_,_,rfl,rfl,⟨by decide,by decide⟩,mH,fun b1 hb1=>?_⟩;have v1:=aJ.aI (o:=.lst [.int (C.getD 0 0/2)]) hb1;have w1:upd H5 b1 (.lst [.int (C.getD 0 0/2)]) b1=_:=aC;generalize upd H5 b1 (.lst [.int (C.getD 0 0/2)])=H6 at v1 w1|-;refine⟨_,rfl,_,rfl,lc,_,rfl,aV.of (v1 _ _ kc5),fun b2 hb2=>?_⟩;rw[show gH (C.map V.int) (some 1) none=(C.drop 1).map V.int by rw[show(1:Int)=((1:Nat):Int) from rfl,kU,qIv]];have v2:=aJ.aI (o:=.lst ((C.drop 1).map V.int)) hb2;have w2:upd H6 b2 (.lst ((C.drop 1).map V.int)) b2=_:=aC;generalize upd H6 b2 (.lst ((C.drop 1).map V.int))=H7 at v2 w2|-;refine⟨b1,b2,_,_,rfl,rfl,aV.of (v2 _ _ w1),aV.of w2,by rw[qAa,qDn];exact qBb (aO (by show 1+_<=1000;lia)),fun ll hll=>?_⟩;rw[show [V.int (C.getD 0 0/2)]++(C.drop 1).map V.int=((C.getD 0 0/2)::C.drop 1).map V.int from rfl];have el:((C.getD 0 0/2)::C.drop 1).length=C.length:=by rw[qAw,qDn];lia
  generalize (C.getD 0 0/2)::C.drop 1=L0 at el|-;have v3:=aJ.aI (o:=.lst (L0.map V.int)) hll;have w3:upd H7 ll (.lst (L0.map V.int)) ll=_:=aC;have s7:=s5.trans (v1.trans v2);have ll0:H ll=none:=s7.free hll;have nll:ll≠l:=fun z=>by rw[z,(v1.trans v2) _ _ kd] at hll;cases hll
  have nlc:ll≠lc:=fun z=>by rw[z,(v1.trans v2) _ _ kc5] at hll;cases hll
  have kd8:=v3 _ _ ((v1.trans v2) _ _ kd);have kc8:=v3 _ _ ((v1.trans v2) _ _ kc5);generalize upd H7 ll (.lst (L0.map V.int))=H8 at v3 w3 kd8 kc8|-;have s8:=s7.trans v3;refine⟨fun mm σ H'=>∃(Dr Lf:List Int) (o:Option V),mm=200-Dr.length/\Dr.length<=126/\Lf.length=C.length/\aJ H H'/\H' lc=some (.lst (C.map V.int))/\H' l=some (.lst (Dr.map V.int))/\H' ll=some (.lst (Lf.map V.int))/\σ=[some (.ref a),some (.ref lc),some (.int 64),some (.int (10^20+39)),some (.ref l),some (.ref ll),o,none],
   ⟨_,[],L0,none,rfl,by decide,el,s8,kc8,kd8,w3,rfl⟩,?_⟩
  rintro mm σ H9 ⟨Dr,Lf,o,rfl,hD,hLf,s9,c9,d9,f9,rfl⟩;exists _,rfl,l,_,rfl,.inl (aV.of d9),_,rfl,_,_,rfl,rfl,_,rfl;rw[qAa];refine cU (fun z=>?_) (fun z=>?_)
  .have z:((Dr.length:Nat):Int)<64:=of_decide_eq_true z;refine⟨fun σ' H'=>∃(Dr' Lf:List Int) (o:Option V),Dr'.length=Dr.length+C.length/\Lf.length=C.length/\aJ H H'/\H' lc=some (.lst (C.map V.int))/\H' l=some (.lst (Dr'.map V.int))/\H' ll=some (.lst (Lf.map V.int))/\σ'=[some (.ref a),some (.ref lc),some (.int 64),some (.int (10^20+39)),some (.ref l),some (.ref ll),o,none],(by rintro σ' H' ⟨Dr',Lf',o',h1,h2,h3,h4,h5,h6,h7⟩;exact ⟨_,by lia,Dr',Lf',o',rfl,by lia,h2,h3,h4,h5,h6,h7⟩),?_⟩;exists _,rfl,lc,_,rfl,.inl (aV.of c9);rw[qAa];refine⟨C.length,rfl,by lia,by lia,?_⟩;refine eC (n:=C.length) (fun i σ' H'=>∃(Dr' Lf:List Int) (o:Option V),Dr'.length=Dr.length+i/\Lf.length=C.length/\aJ H H'/\H' lc=some (.lst (C.map V.int))/\H' l=some (.lst (Dr'.map V.int))/\H' ll=some (.lst (Lf.map V.int))/\σ'=[some (.ref a),some (.ref lc),some (.int 64),some (.int (10^20+39)),some (.ref l),some (.ref ll),o,none]) ⟨Dr,Lf,_,rfl,hLf,s9,c9,d9,f9,rfl⟩ (fun i σ' H' hi z9=>?_) (fun σ' H' h=>h);obtain⟨Dr',Lf',o',h1,h2,h3,h4,h5,h6,h7⟩:=z9;subst h7;have hat:fM (Lf'.map V.int) (0+(i:Int))=some (.int (Lf'.getD i 0)):=by rw[qEh];exact xD (by lia)
   refine⟨_,rfl,.inl ⟨rfl,_,aV.of h5⟩,_,rfl,_,rfl,ll,_,_,_,rfl,rfl,aV.of h6,hat,_,rfl,_,_,rfl,rfl,xC,l,_,_,rfl,rfl,h5,by rw[qAa];exact aO (by lia),?_⟩;have h6':upd H' l (.lst (Dr'.map V.int++[V.int (Lf'.getD i 0%(10^20+39))])) ll=_:=(aQ nll).trans h6;have h5':upd H' l (.lst (Dr'.map V.int++[V.int (Lf'.getD i 0%(10^20+39))])) l=some (.lst ((Dr'++[Lf'.getD i 0%(10^20+39)]).map V.int)):=by rw[aC,qBw];rfl
   have h4':upd H' l (.lst (Dr'.map V.int++[V.int (Lf'.getD i 0%(10^20+39))])) lc=_:=(aQ ncl).trans h4;have h3':aJ H (upd H' l (.lst (Dr'.map V.int++[V.int (Lf'.getD i 0%(10^20+39))]))):=h3.upd_ne' l0;generalize upd H' l (.lst (Dr'.map V.int++[V.int (Lf'.getD i 0%(10^20+39))]))=Hx at h6' h5' h4' h3'|-;refine⟨_,rfl,_,rfl,ll,_,_,_,rfl,rfl,aV.of h6',hat,_,rfl,_,_,rfl,rfl,En _,_,rfl,_,rfl,ll,_,_,i,rfl,rfl,h6',by rw[qAa,qEh];exact Gq (by lia),?_⟩;exact⟨_,Lf'.set i ((Lf'.getD i 0).fdiv (10^20+39)),_,by rw[qAo,h1];rfl,by rw[qJz];exact h2,h3'.upd_ne' ll0,(aQ (fun z=>nlc z.symm)).trans h4',(aQ (fun z=>nll z.symm)).trans h5',by rw[aC,qNt],rfl⟩
  .have z:¬((Dr.length:Nat):Int)<64:=fun y=>z (decide_eq_true y);exact⟨_,rfl,k l Dr H9 l0 s9 (by lia) (by lia) d9⟩
 .refine⟨_,rfl,64,rfl,by decide,by decide,?_⟩;refine eC (n:=64) (fun i σ' H'=>∃(Dr:List Int) (o o':Option V),Dr.length=i/\aJ H H'/\H' lc=some (.lst (C.map V.int))/\H' l=some (.lst (Dr.map V.int))/\σ'=[some (.ref a),some (.ref lc),some (.int 64),some (.int (10^20+39)),some (.ref l),none,o,o']) ⟨[],_,_,rfl,s5,kc5,kd,rfl⟩ (fun i σ' H' hi z9=>?_) (fun σ' H' z9=>?_)
  .obtain⟨Dr,o,o',h1,h3,h4,h5,h7⟩:=z9;subst h7;have hlen:(0:Int)<(((C.map V.int).length:Nat):Int):=by rw[qAa];lia
   obtain⟨x,hx,hxm⟩:=CM (xs:=C.map V.int) (i:=(0+(i:Int))%(((C.map V.int).length:Nat):Int)) (qFv _ (by lia)) (qEo _ hlen);obtain⟨y,_,rfl⟩:=List.mem_map.mp hxm;refine⟨_,rfl,_,rfl,_,rfl,lc,_,rfl,.inl (aV.of h4),_,_,rfl,rfl,hlen,lc,_,_,_,rfl,rfl,aV.of h4,hx,_,rfl,_,_,rfl,rfl,.inl (.inl ⟨by decide,by decide⟩),_,rfl,_,_,rfl,rfl,.inl (.inr ⟨by lia,by lia⟩),_,_,rfl,rfl,_,_,rfl,rfl,_,_,rfl,rfl,.inl (.inr ⟨by decide,by decide⟩),_,_,rfl,rfl,(by show(0:Int)<2147483629;decide),?_⟩;have n0:=qFv ((y+7919*(0+(i:Int))*(0+(i:Int))+11)*48271) (b:=2147483629) #[1];have n1:=qEo ((y+7919*(0+(i:Int))*(0+(i:Int))+11)*48271) (b:=2147483629) #[1];refine⟨_,rfl,.inl ⟨rfl,_,aV.of h5⟩,_,rfl,_,rfl,_,_,rfl,rfl,.inl (.inl ⟨by lia,by lia⟩),_,_,rfl,rfl,.inl (.inr ⟨by decide,by decide⟩),_,rfl,_,_,rfl,rfl,xC,l,_,_,rfl,rfl,h5,by rw[qAa];exact aO (by lia),?_⟩;exact⟨Dr++[_],_,_,by rw[qAo,h1];rfl,h3.upd_ne' l0,(aQ ncl).trans h4,by rw[aC,qBw];rfl,rfl⟩
  .obtain⟨Dr,o,o',h1,h3,h4,h5,h7⟩:=z9;subst h7;exact⟨_,rfl,k l Dr H' l0 h3 (by lia) (by lia) h5⟩
def HA(K:qAb):Sp:=fun vs H Q _=>∃(a:Addr) (ns:List Int) (k:Nat),vs=[.ref a,.int (k:Int)]/\aV K H a (ns.map V.int)/\64<=ns.length/\k<=10000/\∀c:Int,Q (.int c) H
theorem Eo:aN ["_law_draws_here","_law_k","_law_number_here"] ["_law_draws_here","_law_k"] (aH JA):=#[1,2]
theorem Lo(t:Tx K mg "_law_cell" JA ["_law_draws_here","_law_k"] f fd)(T:#[4]):#[5] 1 "_law_cell" ["_law_draws_here","_law_k"] (HA K) f fd:=by
 refine t.jI Eo (by rintro _ _ _ _⟨a,ns,k,rfl,_⟩;rfl) fun _ _ _ _ H vs Q E hr h=>?_;obtain⟨a,ns,j,rfl,hq,h64,hj,k⟩:=h;refine⟨_,(aD (bN (aP jM (pv 1) (aM aU #[0] T.cG bV (aA (pv 0) aB)) (aT _)) (aG (aS (aX bF (pv 0) (pv 1) #[6]))) aZ)
  (aD (bB (i:=2) Eo.nd rfl cC (aL dM (aX bF (pv 0) (aL dM (aL kQ (pv 1) aE) (aM aU #[0] T.cG bV (aA (pv 0) aB))) #[6]) aE))
  (aD (bB (i:=2) Eo.nd rfl cC (aL cR (aL cR (aL kQ (pv 2) aE) (aL kQ (aL kQ (pv 1) (pv 1)) aE)) aE))
  (aG (aS (aL dM (aL kQ (pv 2) aE) aE)))))),?_⟩
 have hjj:(j:Int)*(j:Int)<=10000*10000:=Int.mul_le_mul (by lia) (by lia) (by lia) (by lia);have hj0:0<=(j:Int)*(j:Int):=qNl (by lia) (by lia);refine⟨_,rfl,_,rfl,a,_,rfl,.inl hq,_,_,rfl,rfl,_,rfl,cU (fun h=>?_) (fun _=>?_)⟩
 .have hlt:j<ns.length:=by
   have z:=of_decide_eq_true h;rw[qAa] at z;lia
  have hat:fM (ns.map V.int) (j:Int)=some (.int ns[j]):=bS (by rw[qAf,qAc hlt];rfl);exact⟨_,rfl,_,rfl,a,_,_,_,rfl,rfl,hq,hat,k _⟩
 .have hlen:0<((ns.map V.int).length:Int):=by rw[qAa];lia
  obtain⟨x,hx,hxm⟩:=CM (xs:=ns.map V.int) (i:=(j:Int)*3%((ns.map V.int).length:Int)) (qFv _ (by lia)) (qEo _ hlen);obtain⟨z,_,rfl⟩:=List.mem_map.mp hxm;dsimp only[bR];refine⟨_,rfl,_,rfl,_,_,rfl,rfl,.inr ⟨by decide,by decide⟩,_,rfl,a,_,rfl,.inl hq,_,_,rfl,rfl,hlen,a,_,_,_,rfl,rfl,hq,hx,_,_,rfl,rfl,(by show(0:Int)<2147483629;decide),?_⟩;exists _,rfl,_,_,rfl,rfl,.inr ⟨by decide,by decide⟩,_,rfl,_,rfl,_,_,rfl,rfl,.inl ⟨by lia,by lia⟩,_,_,rfl,rfl,.inr ⟨by decide,by decide⟩,_,_,rfl,rfl,_,_,rfl,rfl;exact⟨_,rfl,_,_,rfl,rfl,.inr ⟨by decide,by decide⟩,_,_,rfl,rfl,(by show(0:Int)<2147483647;decide),k _⟩
theorem abs_eq(i:Int):(if i<0 then -i else i)=(i.natAbs:Int):=by split <;> lia
def Rx(b:Int):Prop:=b=10^12\/b=10^18
def Ph:Sp:=fun vs H Q _=>∃c b:Int,vs=[.int c,.int b]/\Rx b/\∀n:Int,n.natAbs<10^19->Q (.int n) H
theorem Ry:aN ["_law_cell_here","_law_bound"] ["_law_cell_here","_law_bound"] (aH QB):=#[1,2]
theorem Pj(t:Tx K mg "_law_number" QB ["_law_cell_here","_law_bound"] f fd)(T:#[4]):#[5] 1 "_law_number" ["_law_cell_here","_law_bound"] Ph f fd:=by
 refine t.jI Ry (by rintro _ _ _ _⟨c,b,rfl,_⟩;rfl) fun _ _ _ _ H vs Q E hr h=>?_;obtain⟨c,b,rfl,hb,k⟩:=h;have b1:10^12<=b/\b<=10^18:=by rcases hb with rfl | rfl <;> decide
 have e30:(10:Nat)^19=10000000000000000000:=by decide
 have e30':(10:Int)^18=1000000000000000000:=by decide
 have e12':(10:Int)^12=1000000000000:=by decide
 rw[e30',e12'] at b1;refine⟨_,(aD (bN (aP bU (aL dM (pv 0) aE) aE (aT _)) (aG (aS (aL eW (aL dM (aL iY (pv 0) aE) aE) aE))) aZ)
  (aG (aS (aL eW (aL dM (aL iY (pv 0) aE) (aL cR (aL kQ aE (pv 1)) aE)) (pv 1))))),?_⟩
 refine⟨_,rfl,_,_,rfl,rfl,(by show(0:Int)<2;decide),rfl,_,rfl,cU (fun _=>?_) (fun _=>?_)⟩
 .refine⟨_,rfl,_,_,rfl,rfl,⟨by decide,by decide⟩,_,_,rfl,rfl,(by show(0:Int)<19;decide),_,_,rfl,rfl,k _ ?_⟩;rw[e30];lia
 .refine⟨_,rfl,_,_,rfl,rfl,⟨by decide,by decide⟩,_,rfl,_,_,rfl,rfl,.inl ⟨by decide,by decide⟩,_,_,rfl,rfl,_,_,rfl,rfl,(by show(0:Int)<2*b+1;lia),_,rfl,_,_,rfl,rfl,k _ ?_⟩;have z1:=qFv (c/2) (b:=2*b+1) (by lia);have z2:=qEo (c/2) (b:=2*b+1) (by lia);rw[e30];generalize c/2%(2*b+1)=u at z1 z2|-;lia
theorem Pk(h:n<10^19):n<10^30:=qFn h #[2]
structure jY (m:Nat) (r:R4):Prop extends GoodR m r where
 bn:∀n∈r.ns,n.natAbs<10^19
 bp:∀p∈r.ps,p.2.2.natAbs<10^19
def qE(H:Hp)(p:Addr)(m:Nat)(r:R4):Prop:=∃(ln lp:Addr) (bs:List Addr),H p=some (.tup [.str (gA r.k),.ref ln,.ref lp])/\H ln=some (.lst (r.ns.map V.int))/\H lp=some (.lst (bs.map V.ref))/\A2 (dW H) bs r.ps/\jY m r
theorem qE.same(h:qE H p m r)(s:aJ H H'):qE H' p m r:=by
 obtain⟨ln,lp,bs,h1,h2,h3,h4,h5⟩:=h;exact⟨ln,lp,bs,s _ _ h1,s _ _ h2,s _ _ h3,h4.imp fun _ _ z=>z.keep s.t,h5⟩
def rE(m:Nat):Nat->Nat
 | 0=>0
 | i+1=>rE m i+(m-1-i)
theorem As:∀m:_root_.Fin 7,rE m.1 m.1<=15:=by decide
theorem Gr:∀(m:_root_.Fin 7) (i:_root_.Fin 7),i.1<=m.1->rE m.1 i.1<=rE m.1 m.1:=by decide
def oC(m i j:Nat)(ps:List P3):Prop:=(∀p∈ps,p.1<p.2.1/\p.2.1<m/\p.2.2.natAbs<10^19/\(p.1<i\/(p.1=i/\p.2.1<j)))/\lZ ps/\ps.length<=rE m i+(j-(i+1))
theorem oC.go(h:oC m i j ps):oC m i (j+1) ps :=
 ⟨fun b hb=>let ⟨z1,z2,z3,z4⟩:=h.1 b hb;⟨z1,z2,z3,by lia⟩,h.2.1,by have:=h.2.2;lia⟩
theorem oC.up(h:oC m i j ps)(hj:j<=m):oC m (i+1) (i+2) ps :=
 ⟨fun b hb=>let ⟨z1,z2,z3,z4⟩:=h.1 b hb;⟨z1,z2,z3,by lia⟩,h.2.1,by have:=h.2.2;show _<=rE m i+(m-1-i)+_;lia⟩
theorem oC.add(h:oC m i j ps)(hn:n.natAbs<10^19)(hj:i<j)(hm:j<m):oC m i (j+1) (ps++[(i,j,n)]):=by
 refine⟨fun c hc=>?_,?_,by rw[qAo];have:=h.2.2;show _+1<=_;lia⟩
 .rcases List.mem_append.mp hc with hc | hc
  .exact h.go.1 c hc
  .obtain rfl:=List.mem_singleton.mp hc;exact⟨hj,hm,hn,.inr ⟨rfl,by show j<j+1;lia⟩⟩
 .refine List.pairwise_append.mpr ⟨h.2.1,List.pairwise_singleton _ _,fun p hp q hq=>?_⟩;obtain rfl:=List.mem_singleton.mp hq;exact(h.1 p hp).2.2.2
theorem BU{m:Nat}{c:Int}(m6:m<=6):∃kd:Nat,c%7=(kd:Int)/\kd<7/\fM [V.int 0,V.int (m:Int),V.int 0,V.int ((m:Int)+2),V.int 0,V.int (m:Int),V.int (((2^m:Nat):Int)-1)] (c%7)=some (.int ((Mt m kd:Nat):Int)) /\
  fM [V.str ("none":Str),V.str ("own":Str),V.str ("pairs":Str),V.str ("votes":Str),V.str ("match":Str),V.str ("net":Str),V.str ("table":Str)] (c%7)=some (.str (gA kd)):=by
 have hpos:0<2^m:=qGa #[1];have e0:=qFv c (b:=7) #[1];have e1:=qEo c (b:=7) #[1];have e6:((2^m:Nat):Int)-1=((2^m-1:Nat):Int):=by lia
 rw[e6];have:c%7=((0:Nat):Int)\/c%7=((1:Nat):Int)\/c%7=((2:Nat):Int)\/c%7=((3:Nat):Int)\/c%7=((4:Nat):Int)\/c%7=((5:Nat):Int)\/c%7=((6:Nat):Int):=by lia
 rcases this with e | e | e | e | e | e | e
 .exact⟨0,e,by decide,by rw[e];exact bS rfl,by rw[e];exact bS rfl⟩
 .exact⟨1,e,by decide,by rw[e];exact bS rfl,by rw[e];exact bS rfl⟩
 .exact⟨2,e,by decide,by rw[e];exact bS rfl,by rw[e];exact bS rfl⟩
 .exact⟨3,e,by decide,by rw[e];exact bS rfl,by rw[e];exact bS rfl⟩
 .exact⟨4,e,by decide,by rw[e];exact bS rfl,by rw[e];exact bS rfl⟩
 .exact⟨5,e,by decide,by rw[e];exact bS rfl,by rw[e];exact bS rfl⟩
 .exact⟨6,e,by decide,by rw[e];exact bS rfl,by rw[e];exact bS rfl⟩
theorem Ep{ys:List V}{Bd:Int->Prop}(h:∀(i:Nat) (y:V),ys[i]?=some y->∃n:Int,y = .int n/\Bd n):∃ns:List Int,ys=ns.map V.int/\ns.length=ys.length/\∀n∈ns,Bd n:=by
 induction ys with
 | nil=>exact⟨[],rfl,rfl,fun n hn=>by cases hn⟩
 | cons y r ih =>
  obtain⟨n,rfl,hn⟩:=h 0 y rfl;obtain⟨ns,e,l,k⟩:=ih fun i y e=>h (i+1) y e;exact⟨n::ns,by rw[e];rfl,by rw[qAw,l];rfl,fun z hz=>by rcases List.mem_cons.mp hz with rfl | hz;exact hn;exact k z hz⟩
def HB(K:qAb):Sp:=fun vs H Q _=>∃(a:Addr) (ns:List Int) (at_ m:Nat) (b:Int),vs=[.ref a,.int (at_:Int),.int (m:Int),.int b]/\Rx b/\aV K H a (ns.map V.int)/\64<=ns.length/\at_<=1000/\1<=m/\m<=6/\∀(p ln lp:Addr) (bs:List Addr) (r:R4) H',aJ H H'->H p=none->H ln=none->H lp=none->H' p=some (.tup [.str (gA r.k),.ref ln,.ref lp])->H' ln=some (.lst (r.ns.map V.int))->H' lp=some (.lst (bs.map V.ref))->A2 (dW H') bs r.ps->jY m r->Q (.ref p) H'
theorem kJ:aN ["_law_draws_here","_law_at","_law_many","_law_bound","_law_cell_here","_law_size","_law_numbers","_law_pairs","_law_one","_law_other","_law_number_here"] ["_law_draws_here","_law_at","_law_many","_law_bound"] (aH JB):=#[1,2]
theorem Lp{f1 f2:Addr}{fd1 fd2:qCi}(t:Tx K mg "_law_rule" JB ["_law_draws_here","_law_at","_law_many","_law_bound"] f fd)(T:#[4])(D_law_cell:#[5] 1 "_law_cell" ["_law_draws_here","_law_k"] (HA K) f1 fd1)
  (D_law_number:#[5] 1 "_law_number" ["_law_cell_here","_law_bound"] Ph f2 fd2):#[5] 2 "_law_rule" ["_law_draws_here","_law_at","_law_many","_law_bound"] (HB K) f fd:=by
 refine t.jI kJ (by rintro _ _ _ _⟨a,ns,at_,m,b,rfl,_⟩;rfl) fun _ _ _ s H vs Q E hr h=>?_;obtain⟨a,sc,at_,m,b,rfl,hb,ha,hsm,hat,m1,m6,k⟩:=h;have h64:2^m<=64:=qBt (n:=2) #[1] m6;have hpos:0<2^m:=qGa #[1];refine⟨_,(aD (bB (i:=4) kJ.nd rfl cC (bH D_law_cell hr #[1] #[0] (aA (pv 0) (aA (pv 1) aB))))
  (aD (bB (i:=5) kJ.nd rfl #[3] (aX bF (bO (aA aE (aA (pv 2) (aA aE (aA (aL cR (pv 2) aE) (aA aE (aA (pv 2) (aA (aL eW (aL oZ aE (pv 2)) aE) aB)))))))) (aL dM (pv 4) aE) #[6]))
  (aD (lJ (NB:=["_law_k","_law_at","_law_bound","_law_draws_here"]) (pick:=[none,some 1,some 3,some 0]) (i:=6) kJ.nd rfl #[3] #[0] (bT #[7] (by exact(And.intro rfl (And.intro rfl (And.intro rfl trivial)))) rfl #[2] #[2] #[0] #[0]) rfl
    (c8 #[0] T.cO (aA (pv 5) aB)) (fun _ _ _=>aK (i:=0) #[8,["_law_k","_law_at","_law_bound","_law_draws_here"]] rfl cC)
    (fun _ _ _=>bX) (fun _ _ _=>(bH D_law_number hr #[1] #[0] (aA (bH D_law_cell hr #[1] #[0] (aA (pv 3) (aA (aL cR (aL cR (pv 1) aE) (pv 0)) aB))) (aA (pv 2) aB)))))
  (aD (bB (i:=7) kJ.nd rfl #[3] (bO aB))
  (aD (bN (PW.pt (pw_or (aP bU (aL dM (pv 4) aE) aE (aT _)) (pw_or (aP bU (aL dM (pv 4) aE) aE (aT _)) (pw_or1 (aP bU (aL dM (pv 4) aE) aE (aT _)))))) (aG (dJ #[9] rfl (c8 #[0] T.cO (aA (pv 2) aB)) (aK (i:=8) kJ.nd rfl #[3])
    (aG (dJ #[9] rfl (j3 #[0] T.cO (aA (aL cR (pv 8) aE) (aA (pv 2) aB))) (aK (i:=9) kJ.nd rfl #[3])
     (aG (bN (aP bU (aL fG (aL iB (aL iY (pv 4) aE) (aL cR (pv 8) (aL iY (aL kQ (pv 9) (aL eW (pv 9) aE)) aE))) aE) aE (aT _)) (aD (bB (i:=10) kJ.nd rfl #[3] (bH D_law_number hr #[1] #[0] (aA (bH D_law_cell hr #[1] #[0] (aA (pv 0) (aA (aL cR (aL cR (aL cR (pv 1) aE) (pv 5)) (aM aU #[0] T.cG bV (aA (pv 7) aB))) aB))) (aA (pv 3) aB))))
      (aG (bQ (eD qCp qCk qCj dN (pv 7) (aA (cJ (aA (pv 8) (aA (pv 9) (aA (pv 10) aB)))) aB))))) aZ)))))) aZ)
  (aD (bN (aP bU (aL dM (pv 4) aE) aE (aT _)) (aG (xU (aM (mO rfl) #[0] T.nQ tS (aA aE (aA (aM lA #[0] T.nP tO (aA (aX bF (pv 6) aE #[6]) aB)) aB))) (Ce (pv 6) aE set_list))) aZ)
  (aD (bN (aP bU (aL dM (pv 4) aE) aE (aT _)) (aD (lJ (NB:=["_law_number_here"]) (pick:=[none]) (i:=6) kJ.nd rfl #[3] #[0] (bT #[7] (by exact trivial) rfl #[2] #[2] #[0] #[0]) rfl
    (bM (pv 6)) (fun _ _ _=>aK (i:=0) #[8,["_law_number_here"]] rfl cC)
    (fun _ _ _=>bX) (fun _ _ _=>(aM lA #[0] T.nP tO (aA (pv 0) aB))))
   (aG (lJ (NB:=["_law_one","_law_other","_law_number_here"]) (pick:=[none,none,none]) (i:=7) kJ.nd rfl #[3] #[0] (bT #[7] (by exact trivial) rfl #[2] #[2] #[0] #[0]) rfl
    (bM (pv 7)) (fun _ _ _=>(show PG _ _ (qO K 3 (dX (bC 0) (dX (bC 1) (dX (bC 2) qN)))) from eL rfl (bA (aK (i:=0) #[8,["_law_one","_law_other","_law_number_here"]] rfl cC) (bA (aK (i:=1) #[8,["_law_one","_law_other","_law_number_here"]] rfl cC) (bA (aK (i:=2) #[8,["_law_one","_law_other","_law_number_here"]] rfl cC) dC)))))
    (fun _ _ _=>bX) (fun _ _ _=>(cJ (aA (pv 0) (aA (pv 1) (aA (aM lA #[0] T.nP tO (aA (pv 2) aB)) aB)))))))) aZ)
  (aG (aS (cJ (aA (aX bF (bO (aA aY (aA aY (aA aY (aA aY (aA aY (aA aY (aA aY aB)))))))) (aL dM (pv 4) aE) #[6]) (aA (pv 6) (aA (pv 7) aB))))))))))))),?_⟩
 refine⟨_,rfl,_,rfl,a,sc,at_,rfl,ha,hsm,by lia,fun c=>?_⟩;dsimp only[bC];obtain⟨kd,ekd,k7,eat,ehd⟩:=BU (c:=c) m6;have sh:(1:Int)*2^(m:Int).toNat=((2^m:Nat):Int):=by rw[qBv,qIn];push_cast;rfl
 have z63:Mt m kd<=63:=by delta Mt;split <;> lia
 obtain⟨z,hz⟩:∃z,Mt m kd=z:=⟨_,rfl⟩;rw[hz] at eat z63;refine⟨_,rfl,_,rfl,_,_,rfl,rfl,_,rfl,_,rfl,_,_,rfl,rfl,⟨(by show 0<=(m:Int);lia),(by show(m:Int)<=1000000;lia),by decide⟩,_,_,rfl,rfl,by show 7<=qAg;decide,fun lz hlz=>?_⟩;have u1:=aJ.aI (o:=.lst [V.int 0,V.int (m:Int),V.int 0,V.int ((m:Int)+2),V.int 0,V.int (m:Int),V.int (1*2^(m:Int).toNat-1)]) hlz;have hz1:upd H lz (.lst [V.int 0,V.int (m:Int),V.int 0,V.int ((m:Int)+2),V.int 0,V.int (m:Int),V.int (1*2^(m:Int).toNat-1)]) lz=some (.lst [V.int 0,V.int (m:Int),V.int 0,V.int ((m:Int)+2),V.int 0,V.int (m:Int),V.int (1*2^(m:Int).toNat-1)]):=aC;generalize upd H lz (.lst [V.int 0,V.int (m:Int),V.int 0,V.int ((m:Int)+2),V.int 0,V.int (m:Int),V.int (1*2^(m:Int).toNat-1)])=H1 at u1 hz1|-;rw[sh] at hz1;exists _,rfl,_,_,rfl,rfl,(by show(0:Int)<7;decide),lz,_,_,_,rfl,rfl,aV.of hz1,eat;dsimp only[bC];refine⟨_,rfl,(z:Int),rfl,by lia,by lia,?_⟩;refine AZ (n:=z) (fun _ y _=>∃n:Int,y = .int n/\n.natAbs<10^19) (fun i y G G' _ h=>h) (qBb (aO (by lia))) (fun i H3 kk kk0 s3 hi h1=>?_) fun ln ys H2 hln s2 hy hR hd2=>?_
 .exact⟨_,rfl,_,rfl,_,_,rfl,rfl,_,rfl,_,_,rfl,rfl,a,sc,at_+1+i,(by show [V.ref a,V.int ((at_:Int)+1+(0+(i:Int)))]=_;rw[qEh];push_cast;rfl),(u1.trans s3).seq ha,hsm,by lia,fun c=>⟨_,rfl,c,b,rfl,hb,fun n hn=>h1 _ _ (.refl _) ⟨n,rfl,hn⟩⟩⟩
 obtain⟨ns,rfl,nl,nb⟩:=Ep hR;rw[hy] at nl;have u2:=u1.trans s2;have fln:=u1.free hln;clear s2 hz1 u1 hlz hR hy;refine⟨by show 0<=qAg;decide,fun lp hlp=>?_⟩;have u3:=u2.trans (aJ.aI (o:=.lst []) hlp);have hn3:=aJ.aI (o:=.lst []) hlp _ _ hd2;have hp3:upd H2 lp (.lst []) lp=some (.lst ((([]:List Addr)).map V.ref)):=aC;have nnp:ln≠lp:=bG hd2 hlp;have flp:=u2.free hlp;generalize upd H2 lp (.lst [])=H3 at u3 hn3 hp3|-;dsimp only[bC];refine cI (σ':=[some (.ref a),some (.int (at_:Int)),some (.int (m:Int)),some (.int b),some (.int c),some (.int (z:Int)),some (.ref ln),some (.ref lp),none,none,none]) rfl ?_;refine nG (fun σ2 H4=>aJ H H4/\H4 ln=some (.lst (ns.map V.int))/\∃(bs:List Addr) (ps:List P3) (o8 o9 o10:Option V),H4 lp=some (.lst (bs.map V.ref))/\A2 (dW H4) bs ps/\oC m m (m+1) ps/\(kd≠2->kd≠4->kd≠5->ps=[])/\σ2=[some (.ref a),some (.int (at_:Int)),some (.int (m:Int)),some (.int b),some (.int c),some (.int (z:Int)),some (.ref ln),some (.ref lp),o8,o9,o10]) (fun tail=>?_) ?_
 .refine(fun(key:kd=2\/kd=4\/kd=5->_)=>(⟨_,rfl,_,_,rfl,rfl,(by show(0:Int)<7;decide),rfl,_,rfl,cU (fun h=>dG (key (by have e:=V.int.inj (of_decide_eq_true h);lia))) (fun h2=>⟨_,rfl,_,_,rfl,rfl,(by show(0:Int)<7;decide),rfl,_,rfl,cU (fun h=>dG (key (by have e:=V.int.inj (of_decide_eq_true h);lia))) (fun h4=>⟨_,rfl,_,_,rfl,rfl,(by show(0:Int)<7;decide),rfl,_,rfl,cU (fun h=>key (by have e:=V.int.inj (of_decide_eq_true h);lia)) (fun h5=>tail _ _ ⟨u3,hn3,[],[],_,_,_,hp3,.nil,⟨(fun b hb=>by cases hb),.nil,qBf _⟩,fun _ _ _=>rfl,rfl⟩)⟩)⟩)⟩)) ?_
  .intro hk;refine⟨_,rfl,(m:Int),rfl,by lia,by lia,?_⟩;refine eC (n:=m) (fun i σ' H'=>aJ H H'/\H' ln=some (.lst (ns.map V.int))/\∃(bs:List Addr) (ps:List P3) (o8 o9 o10:Option V),H' lp=some (.lst (bs.map V.ref))/\A2 (dW H') bs ps/\oC m i (i+1) ps/\σ'=[some (.ref a),some (.int (at_:Int)),some (.int (m:Int)),some (.int b),some (.int c),some (.int (z:Int)),some (.ref ln),some (.ref lp),o8,o9,o10]) ⟨u3,hn3,[],[],_,_,_,hp3,.nil,⟨(fun b hb=>by cases hb),.nil,qBf _⟩,rfl⟩ ?_ ?_
   .rintro i σ' H4 hi ⟨u4,hn4,bs,ps,o8,o9,o10,hp4,a4,q4,rfl⟩;rw[qEh (i:Int)];refine⟨_,rfl,_,_,rfl,rfl,_,rfl,(i:Int)+1,(m:Int),rfl,⟨by lia,by lia,by lia,by lia⟩,?_⟩;refine eC (lo:=(i:Int)+1) (n:=((m:Int)-((i:Int)+1)).toNat) (fun j σ' H'=>aJ H H'/\H' ln=some (.lst (ns.map V.int))/\∃(bs:List Addr) (ps:List P3) (o9 o10:Option V),H' lp=some (.lst (bs.map V.ref))/\A2 (dW H') bs ps/\oC m i (i+1+j) ps/\σ'=[some (.ref a),some (.int (at_:Int)),some (.int (m:Int)),some (.int b),some (.int c),some (.int (z:Int)),some (.ref ln),some (.ref lp),some (.int (i:Int)),o9,o10]) ⟨u4,hn4,bs,ps,_,_,hp4,a4,q4,rfl⟩ ?_ ?_
    .rintro j σ' H5 hj ⟨u5,hn5,bs,ps,o9,o10,hp5,a5,q5,rfl⟩;obtain⟨o,ho,hio,hom,eo⟩:∃o:Nat,(i:Int)+1+(j:Int)=(o:Int)/\i<o/\o<m/\i+1+j=o:=⟨i+1+j,by lia,by lia,by lia,rfl⟩;show bC 9 (V.int ((i:Int)+1+(j:Int))) _ _ _;rw[ho];rw[eo] at q5;have hbl:=q5.2.2;have al:=a5.len;have t1:rE m m<=15:=As ⟨m,by lia⟩;have t2:rE m i<=rE m m:=Gr ⟨m,by lia⟩ ⟨i,by lia⟩ (by show i<=m;lia);have b1:0<=(o:Int)*((o:Int)-1):=qNl (by lia) (by lia);have b2:0<=(o:Int)*((o:Int)-1)/2:=Int.ediv_nonneg b1 #[1];refine⟨_,rfl,_,_,rfl,rfl,⟨by decide,by decide⟩,_,rfl,_,rfl,_,rfl,_,_,rfl,rfl,_,_,rfl,rfl,.inl ⟨by lia,by lia⟩,_,_,rfl,rfl,⟨by decide,by decide⟩,_,_,rfl,rfl,_,_,rfl,rfl,(by show 0<=(i:Int)+(o:Int)*((o:Int)-1)/2;lia),_,_,rfl,rfl,rfl,_,rfl,cU (fun _=>?_) (fun _=>⟨u5,hn5,bs,ps,_,_,hp5,a5,(by rw[show i+1+(j+1)=o+1 by lia];exact q5.go),rfl⟩)⟩;refine⟨_,rfl,_,rfl,_,_,rfl,rfl,_,rfl,_,_,rfl,rfl,_,rfl,lp,_,rfl,.inl (aV.of hp5),_,_,rfl,rfl,a,sc,at_+1+z+bs.length,(by show [V.ref a,V.int ((at_:Int)+1+(z:Int)+((bs.map V.ref).length:Int))]=_;rw[qAa];push_cast;rfl),u5.seq ha,hsm,by lia,fun cc=>⟨_,rfl,cc,b,rfl,hb,fun n hn=>?_⟩⟩;dsimp only[bC];refine⟨_,rfl,.inl ⟨rfl,_,aV.of hp5⟩,_,rfl,_,rfl,_,rfl,Cb,fun p hp=>?_⟩;have v6:=aJ.aI (o:=.tup [V.int (i:Int),V.int (o:Int),V.int n]) hp;have hp6:upd H5 p (.tup [V.int (i:Int),V.int (o:Int),V.int n]) p=some (.tup [V.int (i:Int),V.int (o:Int),V.int n]):=aC;generalize upd H5 p (.tup [V.int (i:Int),V.int (o:Int),V.int n])=H6 at v6 hp6|-;have Er:=v6 _ _ hp5;refine⟨lp,_,_,rfl,rfl,Er,by rw[qAa];exact aO (by lia),?_⟩;have kt:eO H6 (upd H6 lp (.lst (bs.map V.ref++[V.ref p]))):=fun b us e=>by
      rw[aQ fun z=>by rw[z,Er] at e;cases e];exact e
     refine⟨(u5.trans v6).upd_ne' flp,?_,bs++[p],ps++[(i,o,n)],_,_,?_,?_,?_,rfl⟩
     .rw[aQ nnp];exact v6 _ _ hn5
     .rw[aC,qBw];rfl
     .exact A2.snoc (a5.imp fun _ _ z=>(z.keep v6.t).keep kt) (dW.keep (p:=(i,o,n)) hp6 kt)
     .rw[show i+1+(j+1)=o+1 by lia];exact q5.add hn hio hom
    .rintro σ' H5 ⟨u5,hn5,bs,ps,o9,o10,hp5,a5,q5,rfl⟩;exact⟨u5,hn5,bs,ps,_,_,_,hp5,a5,q5.up (by lia),rfl⟩
   .rintro σ' H5 ⟨u5,hn5,bs,ps,o8,o9,o10,hp5,a5,q5,rfl⟩;exact tail _ _ ⟨u5,hn5,bs,ps,_,_,_,hp5,a5,q5,(fun n2 n4 n5=>by lia),rfl⟩
 rintro σ2 H4 ⟨u4,hn4,bs,ps,o8,o9,o10,hp4,a4,q4,pe4,rfl⟩;have p15:ps.length<=15:=by
  have hl:=q4.2.2;have t1:rE m m<=15:=As ⟨m,by lia⟩;lia
 refine nG (fun σ2 H5=>aJ H H5/\∃ns':List Int,H5 ln=some (.lst (ns'.map V.int))/\ns'.length=z/\(∀n∈ns',n.natAbs<10^19)/\(kd=3->1<=ns'.getD 0 0)/\H5 lp=some (.lst (bs.map V.ref))/\A2 (dW H5) bs ps/\σ2=[some (.ref a),some (.int (at_:Int)),some (.int (m:Int)),some (.int b),some (.int c),some (.int (z:Int)),some (.ref ln),some (.ref lp),o8,o9,o10]) (fun tail=>?_) ?_
 .refine⟨_,rfl,_,_,rfl,rfl,(by show(0:Int)<7;decide),rfl,_,rfl,cU (fun h=>?_) (fun h=>tail _ _ ⟨u4,ns,hn4,nl,nb,(fun e=>absurd ?_ h),hp4,a4,rfl⟩)⟩
  .have e3:c%7=3:=V.int.inj (of_decide_eq_true h);have k3:kd=3:=by lia
   have z3:z=m+2:=by rw[<- hz,k3];rfl
   have h0:0<ns.length:=by lia
   have hat0:fM (ns.map V.int) 0=some (.int (ns.getD 0 0)):=fZ (j:=0) h0;have hix0:Ct (ns.map V.int).length 0=some 0:=by
    delta Ct;rw[qAa,if_pos #[1],if_pos (by lia)];rfl
   have hm0:(ns.getD 0 0)∈ns:=by
    rw[qAj,qAc h0];exact qDm h0
   have hb0:=nb _ hm0;exists _,rfl,ln,_,_,_,rfl,rfl,aV.of hn4,hat0,_,rfl,_,_,rfl;rw[abs_eq];exists _,rfl,ln,_,_,0,rfl,rfl,hn4,hix0;have p30:(1:Nat)<10^19:=by decide
   obtain⟨w,hw,w1,w2⟩:∃w:Int,(if ((ns.getD 0 0).natAbs:Int)>1 then ((ns.getD 0 0).natAbs:Int) else 1)=w/\1<=w/\w.natAbs<10^19:=⟨_,rfl,by split <;> lia,by split;rw[qFu];exact hb0;exact p30⟩;refine tail _ _ ⟨u4.upd_ne' fln,ns.set 0 w,?_,by rw[qJz];exact nl,(fun n hn=>?_),(fun _=>?_),?_,a4.imp fun b q r=>?_,rfl⟩
   .rw[aC];exact congrArg (fun x=>some (HO.lst x)) (by rw[<- hw,qNt])
   .rcases List.mem_or_eq_of_mem_set hn with y | y
    .exact nb n y
    .rw[y];exact w2
   .rw[qAj,qHo h0];exact w1
   .rw[aQ nnp.symm];exact hp4
   .have r:H4 b=some _:=r;show upd H4 ln _ b=some _;rw[aQ fun y=>by rw[y,hn4] at r;cases r];exact r
  .show decide (V.int (c%7)=V.int 3)=true;rw[ekd,e];rfl
 rintro σ2 H5 ⟨u5,ns',hn5,nl5,nb5,q15,hp5,a5,rfl⟩;refine nG (fun σ2 H6=>aJ H H6/\∃(ln' lp':Addr) (ns2:List Int) (bs2:List Addr) (ps2:List P3),H ln'=none/\H lp'=none/\H6 ln'=some (.lst (ns2.map V.int))/\ns2.length=z/\(∀n∈ns2,n.natAbs<10^19)/\(kd=3->1<=ns2.getD 0 0)/\H6 lp'=some (.lst (bs2.map V.ref))/\A2 (dW H6) bs2 ps2/\lZ ps2/\(∀p∈ps2,p.1<p.2.1/\p.2.1<m/\p.2.2.natAbs<10^19)/\ps2.length<=15/\(kd≠2->kd≠4->kd≠5->ps2=[])/\(kd=5->(∀n∈ns2,0<=n)/\∀p∈ps2,0<=p.2.2)/\σ2=[some (.ref a),some (.int (at_:Int)),some (.int (m:Int)),some (.int b),some (.int c),some (.int (z:Int)),some (.ref ln'),some (.ref lp'),o8,o9,o10]) (fun tail=>?_) ?_
 .refine⟨_,rfl,_,_,rfl,rfl,(by show(0:Int)<7;decide),rfl,_,rfl,cU (fun h=>?_) (fun h=>tail _ _ ⟨u5,ln,lp,ns',bs,ps,fln,flp,hn5,nl5,nb5,q15,hp5,a5,q4.2.1,(fun p hp=>let ⟨z1,z2,z3,_⟩:=q4.1 p hp;⟨z1,z2,z3⟩),p15,pe4,(fun e=>absurd ?_ h),rfl⟩)⟩
  .have e5:c%7=5:=V.int.inj (of_decide_eq_true h);have k5:kd=5:=by lia
   exists _,rfl,ln,rfl,⟨_,aV.of hn5⟩;refine cV (xs:=ns'.map V.int) (fun _ x=>match x with | .int i=>some (.int (i.natAbs:Int)) | _=>none) (aV.of hn5) (by rw[qAa];exact qBb (aO (by lia))) (fun i x H7 kk kk0 s7 hx g1 g2=>?_) fun ln' H7 hln' s7 hd=>?_
   .obtain⟨n,hm,rfl⟩:=List.mem_map.mp (qAq hx);exists _,rfl,n,rfl;rw[abs_eq];exact g1 _ rfl _ (.refl _)
   have hd7:H7 ln'=some (.lst ((ns'.map fun i=>(i.natAbs:Int)).map V.int)):=by
    rw[hd,cN,qDg,qBo];show some (HO.lst (ns'.filterMap fun i=>some (V.int (i.natAbs:Int))))=_;rw[qBz];rfl
   have u7:=u5.trans s7;have fln7:=u5.free hln';have hp7:=s7 _ _ hp5;have a7:A2 (dW H7) bs ps:=a5.imp fun _ _ z=>z.keep s7.t;clear hd;dsimp only;exists _,rfl,lp,rfl,⟨_,aV.of hp7⟩;refine pM (xs:=bs.map V.ref) (fun σ'=>∃o0 o1 o2:Option V,σ'=[o0,o1,o2]) (fun i y H'=>∃b p,y = .ref b/\(ps.map fun p:P3=>((p.1,p.2.1,(p.2.2.natAbs:Int)):P3))[i]?=some p/\dW H' b p) (by rintro i y G G' s ⟨b,p,e,e2,r⟩;exact ⟨b,p,e,e2,r.keep s⟩) ⟨_,_,_,rfl⟩ (aV.of hp7) (by rw[qAa,a7.len];exact qBb (aO (by lia))) (fun i x σ1 H8 kk kk0 hσ s8 hx g1=>?_) fun lp' ys H8 hlp' s8 hy hR hd8=>?_
   .obtain⟨o0,o1,o2,rfl⟩:=hσ;rw[qAf] at hx;cases e:bs[i]? with
    | none=>rw[e] at hx;cases hx
    | some bb =>
     rw[e] at hx;cases hx;obtain⟨q,hq,r⟩:=a7.BR i bb e;exists bb,_,rfl,cQ.of (s8 _ _ r),rfl,_,_,rfl,_,_,rfl,_,_,rfl,rfl;exists _,rfl,_,rfl,_,rfl,_,rfl;rw[abs_eq];refine⟨Cb,fun p hp=>g1 _ _ _ ⟨_,_,_,rfl⟩ (.aI hp) ⟨p,(q.1,q.2.1,(q.2.2.natAbs:Int)),rfl,by rw[qAf,hq];rfl,aC⟩⟩
   rw[qAa,a7.len] at hy;obtain⟨bs2,rfl,a8⟩:=A2.Aq (by rw[qAa];exact hy) hR;have u8:=u7.trans s8;refine tail _ _ ⟨u8,ln',lp',_,bs2,_,fln7,u7.free hlp',s8 _ _ hd7,by rw[qAa];exact nl5,(fun n hn=>?_),(fun e=>by lia),hd8,a8,?_,(fun p hp=>?_),by rw[qAa];exact p15,(fun _ _ n5=>absurd k5 n5),(fun _=>⟨fun n hn=>?_,fun p hp=>?_⟩),rfl⟩
   .obtain⟨n',hm,rfl⟩:=List.mem_map.mp hn;rw[qFu];exact nb5 n' hm
   .exact List.pairwise_map.mpr (q4.2.1.imp fun {p q} z=>z)
   .obtain⟨p',hm,rfl⟩:=List.mem_map.mp hp;obtain⟨z1,z2,z3,_⟩:=q4.1 p' hm;exact⟨z1,z2,by show((p'.2.2.natAbs:Int)).natAbs<_;rw[qFu];exact z3⟩
   .obtain⟨n',hm,rfl⟩:=List.mem_map.mp hn;exact qDu _
   .obtain⟨p',hm,rfl⟩:=List.mem_map.mp hp;exact qDu _
  .show decide (V.int (c%7)=V.int 5)=true;rw[ekd,e];rfl
 rintro σ2 H6 ⟨u6,ln',lp',ns2,bs2,ps2,fl',fp',hn6,nl6,nb6,q16,hp6,a6,srt6,pb6,pl6,pe6,n06,rfl⟩;refine⟨by show 7<=qAg;decide,fun lz hlz=>⟨_,rfl,_,_,rfl,rfl,(by show(0:Int)<7;decide),lz,_,_,_,rfl,rfl,aV.of aC,ehd,?_⟩⟩;have u7:=u6.trans (aJ.aI (o:=.lst [V.str ("none":Str),V.str ("own":Str),V.str ("pairs":Str),V.str ("votes":Str),V.str ("match":Str),V.str ("net":Str),V.str ("table":Str)]) hlz);have s67:=aJ.aI (o:=.lst [V.str ("none":Str),V.str ("own":Str),V.str ("pairs":Str),V.str ("votes":Str),V.str ("match":Str),V.str ("net":Str),V.str ("table":Str)]) hlz;generalize upd H6 lz (.lst [V.str ("none":Str),V.str ("own":Str),V.str ("pairs":Str),V.str ("votes":Str),V.str ("match":Str),V.str ("net":Str),V.str ("table":Str)])=H7 at u7 s67|-;refine⟨_,rfl,_,rfl,Cb,fun p hp=>?_⟩;have v8:=aJ.aI (o:=.tup [V.str (gA kd),V.ref ln',V.ref lp']) hp;have s68:=s67.trans v8;exact k p ln' lp' bs2 ⟨kd,ns2,ps2,0⟩ _ (u7.trans v8) (u7.free hp) fl' fp' aC (s68 _ _ hn6) (s68 _ _ hp6) (a6.imp fun b q r=>r.keep s68.t) ⟨⟨k7,by rw[nl6,<- hz],fun n hn=>Pk (nb6 n hn),srt6,fun p hp=>let ⟨z1,z2,z3⟩:=pb6 p hp;⟨z1,z2,Pk z3⟩,pl6,pe6,q16,n06⟩,nb6,fun p hp=>(pb6 p hp).2.2⟩
def HC:Sp:=fun vs H Q _=>∃(ln lp:Addr) (bs:List Addr) (m:Nat) (r:R4) (qs:List P3),vs=[.str (gA r.k),.ref ln,.ref lp]/\GoodR m r/\m<=6/\H ln=some (.lst (r.ns.map V.int))/\H lp=some (.lst (bs.map V.ref))/\A2 (dW H) bs qs/\qs.Perm r.ps/\∀H',aJ H H'->Q (.str (qB r qs)) H'
theorem Pm:aN ["_law_head","_law_numbers","_law_pairs"] ["_law_head","_law_numbers","_law_pairs"] (aH JD):=#[1,2]
theorem Lq(t:Tx K mg "_law_part" JD ["_law_head","_law_numbers","_law_pairs"] f fd)(T:#[4]):#[5] 1 "_law_part" ["_law_head","_law_numbers","_law_pairs"] HC f fd:=by
 refine t.jI Pm (by rintro _ _ _ _⟨ln,lp,bs,m,r,qs,rfl,_⟩;rfl) fun _ _ _ s H vs Q E hr h=>?_;obtain⟨ln,lp,bs,m,r,qs,rfl,g,m6,hn,hp,a2,pm,k⟩:=h;refine⟨_,(aG (aS (eD qCc qDi qDh fW aY (aA (aL cX (aL cX (bO (aA (pv 0) aB)) (bP (NB:=["_law_number_here"]) (pick:=[none]) (bT #[7] (by exact trivial) rfl #[2] #[2] #[0] #[0]) rfl
    (bM (pv 1)) (fun _ _ _=>aK (i:=0) #[8,["_law_number_here"]] rfl cC)
    (fun _ _ _=>bX) (fun _ _ _=>(bW iZ #[0] T.pU yP (aA (pv 0) aB))))) (bP (NB:=["_law_a","_law_b","_law_c"]) (pick:=[none,none,none]) (bT #[7] (by exact trivial) rfl #[2] #[2] #[0] #[0]) rfl
    (bM (pv 2)) (fun _ _ _=>(show PG _ _ (qO K 3 (dX (bC 0) (dX (bC 1) (dX (bC 2) qN)))) from eL rfl (bA (aK (i:=0) #[8,["_law_a","_law_b","_law_c"]] rfl cC) (bA (aK (i:=1) #[8,["_law_a","_law_b","_law_c"]] rfl cC) (bA (aK (i:=2) #[8,["_law_a","_law_b","_law_c"]] rfl cC) dC)))))
    (fun _ _ _=>bX) (fun _ _ _=>(z9 (eG (nO (pv 0)) (eG aY (eG (nO (pv 1)) (eG aY (eG (nO (pv 2)) tV))))))))) aB)))),?_⟩
 have n63:=g.zI m6;have p15:=g.pl;have ql:=pm.length_eq;have q6:∀q∈qs,q.1<6/\q.2.1<6/\q.2.2.natAbs<10^60:=fun q hq=>g.Pd m6 q (pm.mem_iff.mp hq);refine⟨rfl,_,rfl,mH,fun l0 hl0=>?_⟩;have u0:=aJ.aI (o:=.lst [V.str (gA r.k)]) hl0;have h0:upd H l0 (.lst [V.str (gA r.k)]) l0=some (.lst [V.str (gA r.k)]):=aC;generalize upd H l0 (.lst [V.str (gA r.k)])=H0 at u0 h0|-;exists _,rfl,ln,rfl,⟨_,aV.of (u0 _ _ hn)⟩;refine cV (xs:=r.ns.map V.int) (fun _ x=>match x with | .int i=>some (.str (nW i)) | _=>none) (aV.of (u0 _ _ hn)) (by rw[qAa];exact qBb (aO (by lia))) (fun i x H2 kk kk0 s2 hx g1 g2=>?_) fun D H2 hD s2 hd=>?_
 .obtain⟨n,hm,rfl⟩:=List.mem_map.mp (qAq hx);exact⟨_,rfl,n,rfl,g8 (g.Ap n hm),g1 _ rfl _ (.refl _)⟩
 have hd2:H2 D=some (.lst ((r.ns.map nW).map V.str)):=by
  rw[hd,cN,qDg,qBo];show some (HO.lst (r.ns.filterMap fun i=>some (V.str (nW i))))=_;rw[qBz];rfl
 clear hd
 refine⟨l0,D,_,_,rfl,rfl,aV.of (s2 _ _ h0),aV.of hd2,(by rw[qAa,qAa];exact fF (by show 1<=8;decide) (by lia)),fun l3 hl3=>?_⟩;have u3:=(u0.trans s2).trans (aJ.aI (o:=.lst ([V.str (gA r.k)]++(r.ns.map nW).map V.str)) hl3);have h3:upd H2 l3 (.lst ([V.str (gA r.k)]++(r.ns.map nW).map V.str)) l3=some (.lst ([V.str (gA r.k)]++(r.ns.map nW).map V.str)):=aC;generalize upd H2 l3 (.lst ([V.str (gA r.k)]++(r.ns.map nW).map V.str))=H3 at u3 h3|-;have hp3:=u3 _ _ hp;have a3:A2 (dW H3) bs qs:=a2.imp fun _ _ z=>z.keep u3.t;exists _,rfl,lp,rfl,⟨_,aV.of hp3⟩;refine gJ (xs:=bs.map V.ref) (fun σ'=>∃o0 o1 o2:Option V,σ'=[o0,o1,o2]) (fun i _=>(qs[i]?).map fun q=>V.str (pW q)) ⟨_,_,_,rfl⟩ (aV.of hp3) (by rw[qAa,a3.len];exact qBb (aO (by lia))) (fun i x σ1 H4 kk kk0 hσ s4 hx g1 g2=>?_) fun D4 H4 hD4 s4 hd=>?_
 .obtain⟨o0,o1,o2,rfl⟩:=hσ;rw[qAf] at hx;cases e:bs[i]? with
  | none=>rw[e] at hx;cases hx
  | some b =>
   rw[e] at hx;cases hx;obtain⟨q,hq,r'⟩:=a3.BR i b e;obtain⟨q1,q2,q3⟩:=q6 q (qAq hq);have l1:=eY (i:=(q.1:Int)) (qAr (show _<6 from q1) #[2]);have l2:=eY (i:=(q.2.1:Int)) (qAr (show _<6 from q2) #[2]);have l3:=eY q3;have pl:=uJ q1 q2 q3;have e0:Str.empty.length=0:=rfl;have e1:("-":Str).length=1:=rfl;have e2:(":":Str).length=1:=rfl;have sl:1000<=qAg:=by decide
   exists b,_,rfl,cQ.of (s4 _ _ r'),rfl,_,_,rfl,_,_,rfl,_,_,rfl,rfl;have z1:=g8 (n:=(q.1:Int)) (qAr (show _<6 from q1) #[2]);have z2:=g8 (n:=(q.2.1:Int)) (qAr (show _<6 from q2) #[2]);refine⟨_,rfl,(q.1:Int),rfl,z1,nW q.1,rfl,(by rw[Str.length_append];lia),_,rfl,(by rw[Str.length_append,Str.length_append];lia),_,rfl,(q.2.1:Int),rfl,z2,nW q.2.1,rfl,(by rw[Str.length_append,Str.length_append,Str.length_append];lia),_,rfl,(by rw[Str.length_append,Str.length_append,Str.length_append,Str.length_append];lia),_,rfl,q.2.2,rfl,g8 q3,nW q.2.2,rfl,?_,?_,g1 _ _ ⟨_,_,_,rfl⟩ (by show(qs[i]?).map _=_;rw[hq];rfl) _ (.refl _)⟩
   .show(pW q).length<=_;lia
   .show(pW q).length<=_;lia
 have hd4:H4 D4=some (.lst ((qs.map pW).map V.str)):=by
  rw[hd];have e:(qAh (bs.map V.ref).length).filterMap (fun i=>((bs.map V.ref)[i]?).bind fun _=>(qs[i]?).map fun q=>V.str (pW q))=(qAh qs.length).filterMap fun i=>(qs[i]?).bind fun q=>some (V.str (pW q)):=by
   rw[qAa,a3.len];refine dY fun i hi=>?_;have hi':i<bs.length:=by rw[a3.len];exact List.mem_range.mp hi
   rw[qAf,qAc hi'];cases qs[i]? <;> rfl
  rw[e,cN,qBz,qBo];rfl
 refine⟨l3,D4,_,_,rfl,rfl,aV.of (s4 _ _ h3),aV.of hd4,(by rw[qAo,qAa,qAa,qAa,qAa];exact sR (by lia) (by lia)),fun p hp=>?_⟩;refine⟨_,p,gA r.k::(r.ns.map nW++qs.map pW),rfl,rfl,aV.of (by rw[aC,qBa,qBw];rfl),jF (qAx (oT g.k7).2.2 #[1]) (by rw[qAo,qAa,qAa];lia) (fun s hs=>?_),k _ (u3.trans (s4.trans (.aI hp)))⟩;rcases List.mem_append.mp hs with h | h
 .exact p8 g.Ap s h
 .exact qA q6 s h
theorem zK(g i:Nat):qBm ((g:Int)/2^i) 1=((g/2^i%2:Nat):Int):=by
 have e:(g:Int)/2^i=((g/2^i:Nat):Int):=by push_cast;rfl
 rw[e];show((g/2^i &&& 1:Nat):Int)=_;rw[Nat.and_one_is_mod]
def Gs(ns:List Int)(g n:Nat):List Int:=((qAh n).filter fun i=>decide (g/2^i%2=1)).map fun i=>ns.getD i 0
theorem uL(ns:List Int)(g:Nat):∀n,(Gs ns g n).sum=g9 ns g n
 | 0=>rfl
 | n+1=>by
  have ih:=uL ns g n;unfold Gs at ih|-;rw[qCt,qMf,qBw,qMw,ih];show g9 ns g n+_=if g/2^n%2=1 then g9 ns g n+ns.getD n 0 else g9 ns g n;by_cases h:g/2^n%2=1
  .rw[if_pos h,qCg (by simpa using h)];simp
  .rw[if_neg h,qCv (by simpa using h)];simp
theorem Es(ns:List Int)(g:Nat):((qAh (ns.map V.int).length).filterMap fun i=>((ns.map V.int)[i]?).bind fun x=>if g/2^i%2=1 then some x else none)=(Gs ns g ns.length).map V.int:=by
 delta Gs;rw[qAa];have key:∀l:List Nat,(∀i∈l,i<ns.length)->(l.filterMap fun i=>((ns.map V.int)[i]?).bind fun x=>if g/2^i%2=1 then some x else none)=((l.filter fun i=>decide (g/2^i%2=1)).map fun i=>ns.getD i 0).map V.int:=by
  intro l hl;induction l with
  | nil=>rfl
  | cons a r ih =>
   have ha:=hl a qBn;rw[qCf,List.filter_cons,qAf,qAc ha];have e0:ns.getD a 0=ns[a]:=by rw[qAj,qAc ha];rfl
   have ih:=ih fun i hi=>hl i (qAs _ hi);by_cases h:g/2^a%2=1
   .rw[if_pos (decide_eq_true h),qBa,qBa,e0,<- ih];rw[show((qNr V.int (some ns[a])).bind fun x=>if g/2^a%2=1 then some x else none)=some (V.int ns[a]) from if_pos h]
   .rw[if_neg (by simpa using h),<- ih];rw[show((qNr V.int (some ns[a])).bind fun x=>if g/2^a%2=1 then some x else none)=none from if_neg h]
 exact key _ fun i hi=>List.mem_range.mp hi
theorem xF:∀(g:_root_.Fin 64) (u v:_root_.Fin 6),(g.1/2^u.1 &&& g.1/2^v.1) &&& 1=if both g.1 u.1 v.1=true then 1 else 0:=by decide +kernel
def HD(K:qAb):Sp:=fun vs H Q _=>∃(p:Addr) (m g:Nat) (r:R4),vs=[.ref p,.int (g:Int)]/\qE H p m r/\1<=m/\m<=6/\g<2^m/\∀H',aJ H H'->Q (.int (eR r g)) H'
theorem xG:aN ["_law_row","_law_group","_law_head","_law_numbers","_law_pairs","_law_weight"] ["_law_row","_law_group"] (aH JE):=#[1,2]
theorem Lr(t:Tx K mg "_law_earned" JE ["_law_row","_law_group"] f fd)(T:#[4]):#[5] 1 "_law_earned" ["_law_row","_law_group"] (HD K) f fd:=by
 refine t.jI xG (by rintro _ _ _ _⟨p,m,g,r,rfl,_⟩;rfl) fun _ _ _ _ H vs Q E hr h=>?_;obtain⟨p,m,g,r,rfl,⟨ln,lp,bs,q1,q2,q3,a2,gr⟩,m1,m6,hg,k⟩:=h;have h64:2^m<=64:=qBt (n:=2) #[1] m6;refine⟨_,(aD (xU (pv 0) (eL rfl (bA (aK (i:=2) xG.nd rfl cC) (bA (aK (i:=3) xG.nd rfl #[3]) (bA (aK (i:=4) xG.nd rfl #[3]) dC)))))
  (aD (bN (aP bU (pv 2) aY (aT _)) (aG (aS (aM (fB rfl) #[0] T.hX iE (aA (bP (NB:=["_law_k","_law_number_here","_law_group"]) (pick:=[none,none,some 1]) (bT #[7] (by exact(And.intro rfl trivial)) rfl #[2] #[2] #[0] #[0]) rfl
    (oK #[0] T.jE (aA (pv 3) aB)) (fun _ _ _=>(show PG _ _ (qO K 2 (dX (bC 0) (dX (bC 1) qN))) from eL rfl (bA (aK (i:=0) #[8,["_law_k","_law_number_here","_law_group"]] rfl cC) (bA (aK (i:=1) #[8,["_law_k","_law_number_here","_law_group"]] rfl cC) dC))))
    (fun _ _ _=>gL (aP bU (aL fG (aL iB (pv 2) (pv 0)) aE) aE (aT _))) (fun _ _ _=>(pv 1))) aB)))) aZ)
  (aD (bN (aP bU (pv 2) aY (aT _)) (aG (aS (aM (fB rfl) #[0] T.hX iE (aA (bP (NB:=["_law_one","_law_other","_law_number_here","_law_group"]) (pick:=[none,none,none,some 1]) (bT #[7] (by exact(And.intro rfl trivial)) rfl #[2] #[2] #[0] #[0]) rfl
    (bM (pv 4)) (fun _ _ _=>(show PG _ _ (qO K 3 (dX (bC 0) (dX (bC 1) (dX (bC 2) qN)))) from eL rfl (bA (aK (i:=0) #[8,["_law_one","_law_other","_law_number_here","_law_group"]] rfl cC) (bA (aK (i:=1) #[8,["_law_one","_law_other","_law_number_here","_law_group"]] rfl cC) (bA (aK (i:=2) #[8,["_law_one","_law_other","_law_number_here","_law_group"]] rfl cC) dC)))))
    (fun _ _ _=>gL (aP bU (aL fG (aL fG (aL iB (pv 3) (pv 0)) (aL iB (pv 3) (pv 1))) aE) aE (aT _))) (fun _ _ _=>(pv 2))) aB)))) aZ)
  (aD (bN (aP bU (pv 2) aY (aT _)) (aD (bB (i:=5) xG.nd rfl cC (aM (fB rfl) #[0] T.hX iE (aA (bP (NB:=["_law_k","_law_number_here","_law_group"]) (pick:=[none,none,some 1]) (bT #[7] (by exact(And.intro rfl trivial)) rfl #[2] #[2] #[0] #[0]) rfl
    (oK #[0] T.jE (aA (dP gP (pv 3) (eQ aE) eP) aB)) (fun _ _ _=>(show PG _ _ (qO K 2 (dX (bC 0) (dX (bC 1) qN))) from eL rfl (bA (aK (i:=0) #[8,["_law_k","_law_number_here","_law_group"]] rfl cC) (bA (aK (i:=1) #[8,["_law_k","_law_number_here","_law_group"]] rfl cC) dC))))
    (fun _ _ _=>gL (aP bU (aL fG (aL iB (pv 2) (pv 0)) aE) aE (aT _))) (fun _ _ _=>(pv 1))) aB)))
   (aG (aS (aX bF (bO (aA aE (aA (aX bF (pv 3) aE #[6]) aB))) (bW gE #[0] T.hW iD (aA (dD Ci (pv 5) (aX bF (pv 3) aE #[6]) (aT _)) aB)) #[6])))) aZ)
  (aD (bN (PW.pt (pw_and (aP bU (pv 2) aY (aT _)) (pw_and1 (aP vC (pv 1) aE (aT _))))) (aG (aS (aX bF (pv 3) (aL eW (pv 1) aE) #[6]))) aZ)
  (aG (aS aE))))))),?_⟩
 exists _,rfl,p,_,rfl,cQ.of q1,rfl,_,_,rfl,_,_,rfl,_,_,rfl,rfl;have bit:∀i:Nat,qBm ((g:Int)/2^(i:Int).toNat) 1=((g/2^i%2:Nat):Int):=fun i=>by rw[qBv,zK]
 have n63:=gr.zI m6;have p15:=gr.pl;have bl:=a2.len;have k7:=gr.k7;have sz:=gr.sz;refine cI (σ':=[some (.ref p),some (.int (g:Int)),some (.str (gA r.k)),some (.ref ln),some (.ref lp),none]) rfl ?_;have hk:r.k=0\/r.k=4\/r.k=5\/r.k=1\/r.k=2\/r.k=3\/r.k=6:=by lia
 rcases hk with hk | hk | hk | hk | hk | hk | hk
 .rw[hk];have z:eR r g=0:=by delta eR;rw[hk];rfl
  rw[z] at k;refine⟨_,rfl,rfl,_,rfl,bK ?_⟩;dsimp only[bR];refine⟨_,rfl,rfl,_,rfl,bK ?_⟩;dsimp only[bR];refine⟨_,rfl,rfl,_,rfl,bK ?_⟩;dsimp only[bR];refine⟨_,rfl,rfl,_,rfl,bK ?_⟩;dsimp only[bR];exact k H (.refl _)
 .rw[hk];have z:eR r g=0:=by delta eR;rw[hk];rfl
  rw[z] at k;refine⟨_,rfl,rfl,_,rfl,bK ?_⟩;dsimp only[bR];refine⟨_,rfl,rfl,_,rfl,bK ?_⟩;dsimp only[bR];refine⟨_,rfl,rfl,_,rfl,bK ?_⟩;dsimp only[bR];refine⟨_,rfl,rfl,_,rfl,bK ?_⟩;dsimp only[bR];exact k H (.refl _)
 .rw[hk];have z:eR r g=0:=by delta eR;rw[hk];rfl
  rw[z] at k;refine⟨_,rfl,rfl,_,rfl,bK ?_⟩;dsimp only[bR];refine⟨_,rfl,rfl,_,rfl,bK ?_⟩;dsimp only[bR];refine⟨_,rfl,rfl,_,rfl,bK ?_⟩;dsimp only[bR];refine⟨_,rfl,rfl,_,rfl,bK ?_⟩;dsimp only[bR];exact k H (.refl _)
 .rw[hk];have he:eR r g=nA r.ns g:=by delta eR;rw[hk];rfl
  refine⟨_,rfl,rfl,_,rfl,dG ?_⟩;exists _,rfl,ln,rfl,⟨_,aV.of q2⟩;refine pF (xs:=r.ns.map V.int) (fun σ'=>∃o0 o1:Option V,σ'=[o0,o1,some (.int (g:Int))]) (fun i x=>if g/2^i%2=1 then some x else none) ⟨_,_,rfl⟩ (aV.of q2) (by rw[qAa];exact qBb (aO (by lia))) (fun i x t σ1 H3 kk kk0 hσ s3 hx ht g1 g2=>?_) fun D H3 hD s3 hd=>?_
  .obtain⟨o0,o1,rfl⟩:=hσ;exists t,_,rfl,cQ.of ht,rfl,_,_,rfl,_,_,rfl,rfl;refine⟨_,rfl,_,rfl,_,_,rfl,rfl,(by show 0<=(i:Int);lia),_,_,rfl,rfl,rfl,_,rfl,cU (fun h3=>?_) (fun h3=>g2 _ ⟨_,_,rfl⟩ ?_ _ (.refl _))⟩
   .have z:=V.int.inj (of_decide_eq_true h3);rw[bit] at z;exact⟨_,rfl,g1 _ _ ⟨_,_,rfl⟩ (if_pos (by lia)) _ (.refl _)⟩
   .refine if_neg fun z=>h3 ?_;show decide (V.int (qBm ((g:Int)/2^(i:Int).toNat) 1)=V.int 1)=true;rw[bit,z];rfl
  rw[Es] at hd;exists D,_,rfl,.inl (aV.of hd);rw[uL,show g9 r.ns g r.ns.length=eR r g from he.symm];exact k H3 s3
 .rw[hk];have he:eR r g=w4 r.ps g:=by delta eR;rw[hk];rfl
  refine⟨_,rfl,rfl,_,rfl,bK ?_⟩;dsimp only[bR];refine⟨_,rfl,rfl,_,rfl,dG ?_⟩;exists _,rfl,lp,rfl,⟨_,aV.of q3⟩;refine gJ (xs:=bs.map V.ref) (fun σ'=>∃o0 o1 o2:Option V,σ'=[o0,o1,o2,some (.int (g:Int))]) (fun i _=>(r.ps[i]?).bind fun q=>if both g q.1 q.2.1=true then some (V.int q.2.2) else none) ⟨_,_,_,rfl⟩ (aV.of q3) (by rw[qAa];exact qBb (aO (by lia))) (fun i x σ1 H2 kk kk0 hσ s2 hx h1 h2=>?_) fun D H2 hD s2 hd=>?_
  .obtain⟨o0,o1,o2,rfl⟩:=hσ;rw[qAf] at hx;cases e:bs[i]? with
   | none=>rw[e] at hx;cases hx
   | some b =>
    rw[e] at hx;cases hx;obtain⟨q,hq,r'⟩:=a2.BR i b e;obtain⟨hu,hv,_⟩:=gr.p6 m6 q (qAq hq);have ez:qBm (qBm ((g:Int)/2^(q.1:Int).toNat) ((g:Int)/2^(q.2.1:Int).toNat)) 1=(if both g q.1 q.2.1=true then 1 else 0:Int):=by
     have z:(g/2^q.1 &&& g/2^q.2.1) &&& 1=if both g q.1 q.2.1=true then 1 else 0:=xF ⟨g,by lia⟩ ⟨q.1,hu⟩ ⟨q.2.1,hv⟩;rw[qBv,qBv,show(g:Int)/2^q.1=((g/2^q.1:Nat):Int) by push_cast;rfl,show(g:Int)/2^q.2.1=((g/2^q.2.1:Nat):Int) by push_cast;rfl];show(((g/2^q.1 &&& g/2^q.2.1) &&& 1:Nat):Int)=_;rw[z];split <;> rfl
    exists b,_,rfl,cQ.of (s2 _ _ r'),rfl,_,_,rfl,_,_,rfl,_,_,rfl,rfl;exists _,rfl,_,rfl,_,_,rfl,rfl,(by show 0<=(q.1:Int);lia),_,rfl,_,rfl,_,_,rfl,rfl,(by show 0<=(q.2.1:Int);lia),_,_,rfl,rfl,_,_,rfl,rfl,rfl,_,rfl;show if decide (V.int (qBm (qBm ((g:Int)/2^(q.1:Int).toNat) ((g:Int)/2^(q.2.1:Int).toNat)) 1)=V.int 1)=true then _ else _;rw[ez];cases ebo:both g q.1 q.2.1 with
    | true=>exact dG ⟨_,rfl,h1 _ _ ⟨_,_,_,rfl⟩ (by rw[hq];show(if both g q.1 q.2.1=true then some (V.int q.2.2) else none)=_;rw[ebo];rfl) _ (.refl _)⟩
    | false=>exact bK (h2 _ ⟨_,_,_,rfl⟩ (by rw[hq];show(if both g q.1 q.2.1=true then some (V.int q.2.2) else none)=_;rw[ebo];rfl) _ (.refl _))
  have ed:H2 D=some (.lst ((r.ps.filterMap fun p=>if both g p.1 p.2.1=true then some p.2.2 else none).map V.int)):=by
   rw[hd];have e:(qAh (bs.map V.ref).length).filterMap (fun i=>((bs.map V.ref)[i]?).bind fun _=>(r.ps[i]?).bind fun q=>if both g q.1 q.2.1=true then some (V.int q.2.2) else none)=(qAh r.ps.length).filterMap fun i=>(r.ps[i]?).bind fun q=>if both g q.1 q.2.1=true then some (V.int q.2.2) else none:=by
    rw[qAa,bl];refine dY fun i hi=>?_;have hi':i<bs.length:=by rw[bl];exact List.mem_range.mp hi
    rw[qAf,qAc hi'];rfl
   rw[e,cN,qGs];refine congrArg (fun f=>some (HO.lst (r.ps.filterMap f))) (funext fun p=>?_);split <;> rfl
  exists D,_,rfl,.inl (aV.of ed);rw[show(r.ps.filterMap fun p=>if both g p.1 p.2.1=true then some p.2.2 else none).sum=eR r g from he.symm];exact k H2 s2
 .rw[hk] at sz;have nl:r.ns.length=m+2:=sz;rw[hk];have he:eR r g=rC (r.ns.getD 0 0) (r.ns.getD 1 0) (r.ns.drop 2) g:=by delta eR;rw[hk];rfl
  refine⟨_,rfl,rfl,_,rfl,bK ?_⟩;dsimp only[bR];refine⟨_,rfl,rfl,_,rfl,bK ?_⟩;dsimp only[bR];refine⟨_,rfl,rfl,_,rfl,dG ?_⟩;refine⟨_,rfl,_,rfl,ln,_,rfl,aV.of q2,fun l2 hl2=>?_⟩;have ec:gH (r.ns.map V.int) (some 2) none=(r.ns.drop 2).map V.int:=by rw[show(2:Int)=((2:Nat):Int) from rfl,kU,<- qIv]
  rw[ec];have u1:=aJ.aI (o:=.lst ((r.ns.drop 2).map V.int)) hl2;have h2':upd H l2 (.lst ((r.ns.drop 2).map V.int)) l2=some (.lst ((r.ns.drop 2).map V.int)):=aC;generalize upd H l2 (.lst ((r.ns.drop 2).map V.int))=H1 at u1 h2'|-;exists l2,rfl,⟨_,aV.of h2'⟩;refine pF (xs:=(r.ns.drop 2).map V.int) (fun σ'=>∃o0 o1:Option V,σ'=[o0,o1,some (.int (g:Int))]) (fun i x=>if g/2^i%2=1 then some x else none) ⟨_,_,rfl⟩ (aV.of h2') (by rw[qAa,qDn];exact qBb (aO (by lia))) (fun i x t σ1 H3 kk kk0 hσ s3 hx ht g1 g2=>?_) fun D H3 hD s3 hd=>?_
  .obtain⟨o0,o1,rfl⟩:=hσ;exists t,_,rfl,cQ.of ht,rfl,_,_,rfl,_,_,rfl,rfl;refine⟨_,rfl,_,rfl,_,_,rfl,rfl,(by show 0<=(i:Int);lia),_,_,rfl,rfl,rfl,_,rfl,cU (fun h3=>?_) (fun h3=>g2 _ ⟨_,_,rfl⟩ ?_ _ (.refl _))⟩
   .have z:=V.int.inj (of_decide_eq_true h3);rw[bit] at z;exact⟨_,rfl,g1 _ _ ⟨_,_,rfl⟩ (if_pos (by lia)) _ (.refl _)⟩
   .refine if_neg fun z=>h3 ?_;show decide (V.int (qBm ((g:Int)/2^(i:Int).toNat) 1)=V.int 1)=true;rw[bit,z];rfl
  rw[Es] at hd;exists D,_,rfl,.inl (aV.of hd);rw[uL,show g9 (r.ns.drop 2) g (r.ns.drop 2).length=nA (r.ns.drop 2) g from rfl];dsimp only[bC];have u3:=u1.trans s3;have q2':=u3 _ _ q2;have at1:fM (r.ns.map V.int) 1=some (.int (r.ns.getD 1 0)):=fZ (j:=1) (by lia);have at0:fM (r.ns.map V.int) 0=some (.int (r.ns.getD 0 0)):=fZ (j:=0) (by lia);refine⟨_,rfl,ln,_,_,_,rfl,rfl,aV.of q2',at1,kY,fun lz hlz=>?_⟩;have u4:=aJ.aI (o:=.lst [V.int 0,V.int (r.ns.getD 1 0)]) hlz;refine⟨_,rfl,_,rfl,ln,_,_,_,rfl,rfl,aV.of (u4 _ _ q2'),at0,_,_,rfl,rfl,.inr ⟨_,rfl,?_⟩⟩;refine⟨lz,_,_,.int (eR r g),rfl,rfl,aV.of aC,?_,k _ (u3.trans u4)⟩;rw[he];delta rC;show fM [V.int 0,V.int (r.ns.getD 1 0)] (if decide (nA (r.ns.drop 2) g≥r.ns.getD 0 0)=true then (1:Int) else 0)=_;by_cases hq:r.ns.getD 0 0<=nA (r.ns.drop 2) g
  .rw[if_pos hq,decide_eq_true (show nA (r.ns.drop 2) g≥r.ns.getD 0 0 from hq)];rfl
  .rw[if_neg hq,decide_eq_false (show ¬nA (r.ns.drop 2) g≥r.ns.getD 0 0 from hq)];rfl
 .rw[hk] at sz;have nl:r.ns.length=2^m-1:=sz;rw[hk];have he:eR r g=(0::r.ns).getD g 0:=by delta eR;rw[hk];rfl
  refine⟨_,rfl,rfl,_,rfl,bK ?_⟩;dsimp only[bR];refine⟨_,rfl,rfl,_,rfl,bK ?_⟩;dsimp only[bR];refine⟨_,rfl,rfl,_,rfl,bK ?_⟩;dsimp only[bR];refine⟨_,rfl,rfl,_,rfl,dG ?_⟩;refine⟨_,rfl,_,_,rfl,rfl,_,rfl,cU (fun h2=>?_) (fun h2=>?_)⟩
  .have g0:0<g:=by have:=of_decide_eq_true h2;lia
   obtain⟨j,rfl⟩:∃j,g=j+1:=⟨g-1,by lia⟩;refine⟨_,rfl,_,rfl,_,_,rfl,rfl,ln,_,_,_,rfl,rfl,aV.of q2,(by show fM (r.ns.map V.int) (((j+1:Nat):Int)-1)=_;rw[show((j+1:Nat):Int)-1=(j:Int) by lia];exact fZ (by lia)),?_⟩;have z:eR r (j+1)=r.ns.getD j 0:=he;rw[<- z];exact k H (.refl _)
  .have g0:g=0:=by
    rcases qDt g with z | z
    .exact z
    .exact absurd (decide_eq_true (by lia)) h2
   subst g0;have z:eR r 0=0:=he;rw[z] at k;exact k H (.refl _)
abbrev qK:=Addr×R4
def cS(rows:List qK):List V:=rows.map fun r=>V.ref r.1
def qF(H:Hp)(m:Nat)(rows:List qK):Prop:=∀r∈rows,qE H r.1 m r.2
theorem qF.same(h:qF H m rows)(s:aJ H H'):qF H' m rows:=fun r hr=>(h r hr).same s
def iJ(l:Addr)(H:Hp)(p:Addr)(m:Nat)(r:R4):Prop:=∀H'',(∀b o,b≠l->H b=some o->H'' b=some o)->qE H'' p m r
theorem iJ.keep(h:iJ l H p m r)(s:∀b o,b≠l->H b=some o->H' b=some o):iJ l H' p m r:=fun H'' k=>h H'' fun b o n e=>k b o n (s b o n e)
theorem iJ.of(hl:H l=some (.lst xs))(h1:H p=some (.tup [.str (gA r.k),.ref ln,.ref lp]))(h2:H ln=some (.lst (r.ns.map V.int)))(h3:H lp=some (.lst (bs.map V.ref)))(h4:A2 (dW H) bs r.ps)(g:jY m r)(n2:ln≠l)(n3:lp≠l):iJ l H p m r:=fun H'' k=>by
 have tk:∀{b:Addr}{us:List V},H b=some (.tup us)->b≠l:=fun e z=>by rw[z,hl] at e;cases e
 exact⟨ln,lp,bs,k _ _ (tk h1) h1,k _ _ n2 h2,k _ _ n3 h3,h4.imp fun b q e=>k _ _ (tk e) e,g⟩
def spS(sp:Nat):Str:=if sp=4 then "match" else if sp=5 then "net" else ""
theorem Pn:∀{k sp:Nat},k<7->(sp=0\/sp=4\/sp=5)->decide (V.str (gA k)=V.str (spS sp))=decide (k=sp/\sp≠0):=by
 intro k sp hk hs;have:∀(k:_root_.Fin 7) (sp:_root_.Fin 6),(sp.1=0\/sp.1=4\/sp.1=5)->decide (V.str (gA k.1)=V.str (spS sp.1))=decide (k.1=sp.1/\sp.1≠0):=by decide +kernel
 exact this ⟨k,hk⟩ ⟨sp,by lia⟩ hs
theorem Ls:∀{sp:Nat},(sp=0\/sp=4\/sp=5)->decide (V.str (spS sp)=V.str ("":Str))=decide (sp=0)/\decide (V.str (spS sp)=V.str ("net":Str))=decide (sp=5):=by
 intro sp hs;have:∀sp:_root_.Fin 6,(sp.1=0\/sp.1=4\/sp.1=5)->decide (V.str (spS sp.1)=V.str ("":Str))=decide (sp.1=0)/\decide (V.str (spS sp.1)=V.str ("net":Str))=decide (sp.1=5):=by decide +kernel
 exact this ⟨sp,by lia⟩ hs
theorem xI:∀{k:Nat},k<7->decide (V.str (gA k)=V.str ("match":Str))=decide (k=4)/\decide (V.str (gA k)=V.str ("net":Str))=decide (k=5)
 | 0,_=>by decide +kernel
 | 1,_=>by decide +kernel
 | 2,_=>by decide +kernel
 | 3,_=>by decide +kernel
 | 4,_=>by decide +kernel
 | 5,_=>by decide +kernel
 | 6,_=>by decide +kernel
 | k+7,h=>absurd h (by lia)
def nH(sp:Nat)(rows:List qK):Prop:=(∀r∈rows,r.2.k=4\/r.2.k=5->r.2.k=sp)/\∀(i j:Nat) (r r':qK),rows[i]?=some r->rows[j]?=some r'->(r.2.k=4\/r.2.k=5)->(r'.2.k=4\/r'.2.k=5)->i=j
theorem nH.plain(o:nH sp rows)(h4:r.k≠4)(h5:r.k≠5):nH sp (rows++[(p,r)]):=by
 refine⟨fun x hx h=>?_,fun i j x y hi hj h1 h2=>?_⟩
 .rcases List.mem_append.mp hx with z | z
  .exact o.1 x z h
  .rw[qCz] at z;subst z;rcases h with h | h
   .exact absurd h h4
   .exact absurd h h5
 .have key:∀{i:Nat}{x:qK},(rows++[(p,r)])[i]?=some x->(x.2.k=4\/x.2.k=5)->rows[i]?=some x:=fun {i x} hi h1=>by
   rcases qBj i rows.length with l | l
   .rw[qBu l] at hi;exact hi
   .have:i<(rows++[(p,r)]).length:=(List.getElem?_eq_some_iff.mp hi).1;rw[qAo] at this;have e:i=rows.length:=by have:i<rows.length+1:=this;lia
    subst e;rw[qCd (qAl _),qOh] at hi;cases hi;rcases h1 with h | h
    .exact absurd h h4
    .exact absurd h h5
  exact o.2 i j x y (key hi h1) (key hj h2) h1 h2
theorem nH.first(no:∀x∈rows,¬(x.2.k=4\/x.2.k=5))(h:r.k=sp):nH sp (rows++[(p,r)]):=by
 refine⟨fun x hx hh=>?_,fun i j x y hi hj h1 h2=>?_⟩
 .rcases List.mem_append.mp hx with z | z
  .exact absurd hh (no x z)
  .rw[qCz] at z;subst z;exact h
 .have key:∀{i:Nat}{x:qK},(rows++[(p,r)])[i]?=some x->(x.2.k=4\/x.2.k=5)->i=rows.length:=fun {i x} hi h1=>by
   rcases qBj i rows.length with l | l
   .rw[qBu l] at hi;exact absurd h1 (no x (qAq hi))
   .have:i<(rows++[(p,r)]).length:=(List.getElem?_eq_some_iff.mp hi).1;rw[qAo] at this;have:i<rows.length+1:=this;lia
  rw[key hi h1,key hj h2]
theorem good_none:jY m ⟨0,[],[],0⟩:=by
 refine⟨⟨by decide,rfl,?_,.nil,?_,by decide,?_,?_,?_⟩,(fun n z=>by cases z),fun n z=>by cases z⟩
 .intro n z;cases z
 .intro n z;cases z
 .intro _ _ _;rfl
 .intro z;cases z
 .intro z;cases z
theorem sV:∀n:Nat,(qBq n [V.int 7]).flatten=(qBq n (7:Int)).map V.int
 | 0=>rfl
 | n+1=>by rw[qEi,qEi,qFz,sV n];rfl
theorem zL(g:jY m r):jY m ⟨4,[],r.ps,0⟩:=by
 refine⟨⟨by show 4<7;decide,rfl,?_,g.qI,g.pb,g.pl,?_,?_,?_⟩,(fun n z=>by cases z),g.bp⟩
 .intro n z;cases z
 .intro _ z;exact absurd rfl z
 .intro z;cases z
 .intro z;cases z
def xJ(ps:List P3):List P3:=ps.map fun p:P3=>((p.1,p.2.1,(p.2.2.natAbs:Int)):P3)
theorem Et(g:jY m r)(h45:r.k=4\/r.k=5)(hl:r.ns.length+n7=m):jY m ⟨5,r.ns++qBq n7 7,xJ r.ps,0⟩:=by
 have n0:∀n∈r.ns,0<=n:=fun n hn=>by
  rcases h45 with h | h
  .have z:=g.sz;rw[h] at z;have z:r.ns.length=0:=z;rw[List.length_eq_zero_iff.mp z] at hn;cases hn
  .exact(g.n0 h).1 n hn
 exists ⟨by show 5<7;decide,?_,?_,?_,?_,?_,?_,?_,?_⟩,?_
 .show(r.ns++qBq n7 7).length=m;rw[qAo,qHw,hl]
 .intro n hn;rcases List.mem_append.mp hn with z | z
  .exact g.nb n z
  .rw[(List.mem_replicate.mp z).2];decide
 .exact List.pairwise_map.mpr (g.qI.imp fun {p q} z=>z)
 .intro p hp;obtain⟨p',hm,rfl⟩:=List.mem_map.mp hp;obtain⟨z1,z2,z3⟩:=g.pb p' hm;exact⟨z1,z2,by show((p'.2.2.natAbs:Int)).natAbs<_;rw[qFu];exact z3⟩
 .show(xJ r.ps).length<=15;delta xJ;rw[qAa];exact g.pl
 .intro _ _ z;exact absurd rfl z
 .intro z;cases z
 .intro _;refine⟨fun n hn=>?_,fun p hp=>?_⟩
  .rcases List.mem_append.mp hn with z | z
   .exact n0 n z
   .rw[(List.mem_replicate.mp z).2];decide
  .obtain⟨p',hm,rfl⟩:=List.mem_map.mp hp;exact qDu _
 .intro n hn;rcases List.mem_append.mp hn with z | z
  .exact g.bn n z
  .rw[(List.mem_replicate.mp z).2];decide
 .intro p hp;obtain⟨p',hm,rfl⟩:=List.mem_map.mp hp;show((p'.2.2.natAbs:Int)).natAbs<_;rw[qFu];exact g.bp p' hm
def HE(K:qAb):Sp:=fun vs H Q _=>∃(a:Addr) (ns:List Int) (m sp:Nat),vs=[.ref a,.int (m:Int),.str (spS sp)]/\(sp=0\/sp=4\/sp=5)/\aV K H a (ns.map V.int)/\64<=ns.length/\1<=m/\m<=6/\∀(l:Addr) (rows:List qK) H',H l=none->aJ H H'->H' l=some (.lst (cS rows))->rows.length<=12->qF H' m rows->nH sp rows->Q (.ref l) H'
theorem kK:aN ["_law_draws_here","_law_many","_law_special","_law_bound","_law_most","_law_some","_law_at","_law_row"] ["_law_draws_here","_law_many","_law_special"] (aH JC):=#[1,2]
theorem Lu(t:Tx K mg "_law_rules" JC ["_law_draws_here","_law_many","_law_special"] f fd)(T:#[4])(D_law_rule:#[5] 2 "_law_rule" ["_law_draws_here","_law_at","_law_many","_law_bound"] (HB K) f1 fd1):
  #[5] 3 "_law_rules" ["_law_draws_here","_law_many","_law_special"] (HE K) f fd:=by
 refine t.jI kK (by rintro _ _ _ _⟨a,ns,m,sp,rfl,_⟩;rfl) fun _ _ _ s H vs Q E hr h=>?_;obtain⟨a,ns,m,sp,rfl,hsp,ha,hns,m1,m6,k⟩:=h;refine⟨_,(aD (bB (i:=3) kK.nd rfl cC (aX bF (bO (aA (aL xY aE aE) (aA (aL xY aE aE) aB))) (bW gE #[0] T.hW iD (aA (dD jM (pv 1) aE (aT _)) aB)) #[6]))
  (aD (bB (i:=4) kK.nd rfl cC (aL dM (aL iY (aX bF (pv 0) aE #[6]) aE) (aX bF (bO (aA aE (aA aE aB))) (bW gE #[0] T.hW iD (aA (dD vC (pv 1) aE (aT _)) aB)) #[6])))
  (aD (bB (i:=5) kK.nd rfl #[3] (bO aB))
  (aD (bB (i:=6) kK.nd rfl cC aE)
  (aD (oY #[9] (PW.pt (pw_and (aP jM (pv 6) aE (aT _)) (pw_and1 (aP jM (aM aU #[0] T.cG bV (aA (pv 5) aB)) (pv 4) (aT _)))))
   (aD (bB (i:=7) kK.nd rfl #[3] (bH D_law_rule hr #[1] #[0] (aA (pv 0) (aA (pv 6) (aA (pv 1) (aA (pv 3) aB))))))
   (aD (bB (i:=6) kK.nd rfl cC (aL cR (aL cR (aL cR (pv 6) aE) (aM aU #[0] T.cG bV (aA (aX bL (pv 7) aE #[6]) aB))) (aM aU #[0] T.cG bV (aA (aX bL (pv 7) aE #[6]) aB))))
   (aD (bN (PW.pt (pw_or (aP bU (aX bL (pv 7) aE #[6]) aY (aT _)) (pw_or1 (aP bU (aX bL (pv 7) aE #[6]) aY (aT _))))) (aG (bN (PW.pt (pw_or (aP (Dp hr.units) (bP (NB:=["_law_one","_law_special"]) (pick:=[none,some 2]) (bT #[7] (by exact(And.intro rfl trivial)) rfl #[2] #[2] #[0] #[0]) rfl
    (bM (pv 5)) (fun _ _ _=>aK (i:=0) #[8,["_law_one","_law_special"]] rfl cC)
    (fun _ _ _=>gL (aP bU (aX (gQ K) (pv 0) aE #[6]) (pv 1) (aT _))) (fun _ _ _=>(pv 0))) (bO aB) (aT _)) (pw_or1 (aP bU (pv 2) aY (aT _))))) (aG (bB (i:=7) kK.nd rfl #[3] (cJ (aA aY (aA (bO aB) (aA (bO aB) aB)))))) (aD (bB (i:=7) kK.nd rfl #[3] (cJ (aA (pv 2) (aA (aX bF (bO (aA (bO aB) (aA (aL cX (aX bL (pv 7) aE #[6]) (aL Cw (bO (aA aE aB)) (aL eW (pv 1) (aM aU #[0] T.cG bV (aA (aX bL (pv 7) aE #[6]) aB))))) aB))) (bW gE #[0] T.hW iD (aA (dD bU (pv 2) aY (aT _)) aB)) #[6]) (aA (aX bL (pv 7) aE #[6]) aB)))))
     (aG (bN (aP bU (pv 2) aY (aT _)) (aG (bB (i:=7) kK.nd rfl #[3] (cJ (aA aY (aA (aX bL (pv 7) aE #[6]) (aA (bP (NB:=["_law_one","_law_other","_law_number_here"]) (pick:=[none,none,none]) (bT #[7] (by exact trivial) rfl #[2] #[2] #[0] #[0]) rfl
    (bM (aX bL (pv 7) aE #[6])) (fun _ _ _=>(show PG _ _ (qO K 3 (dX (bC 0) (dX (bC 1) (dX (bC 2) qN)))) from eL rfl (bA (aK (i:=0) #[8,["_law_one","_law_other","_law_number_here"]] rfl cC) (bA (aK (i:=1) #[8,["_law_one","_law_other","_law_number_here"]] rfl cC) (bA (aK (i:=2) #[8,["_law_one","_law_other","_law_number_here"]] rfl cC) dC)))))
    (fun _ _ _=>bX) (fun _ _ _=>(cJ (aA (pv 0) (aA (pv 1) (aA (aM lA #[0] T.nP tO (aA (pv 2) aB)) aB)))))) aB)))))) aZ))))) aZ)
   (aG (bQ (eD qCp qCk qCj dN (pv 5) (aA (pv 7) aB))))))))
  (aG (aS (pv 5)))))))),?_⟩
 refine⟨_,_,rfl,rfl,⟨by decide,by decide,by decide⟩,_,_,rfl,rfl,⟨by decide,by decide,by decide⟩,kY,fun lb hlb=>?_⟩;have u1:=aJ.aI (o:=.lst [V.int (10^(12:Int).toNat),V.int (10^(18:Int).toNat)]) hlb;have hb1:upd H lb (.lst [V.int (10^(12:Int).toNat),V.int (10^(18:Int).toNat)]) lb=some (.lst [V.int (10^(12:Int).toNat),V.int (10^(18:Int).toNat)]):=aC;generalize upd H lb (.lst [V.int (10^(12:Int).toNat),V.int (10^(18:Int).toNat)])=H1 at u1 hb1|-;obtain⟨b,hb,hbn⟩:∃b:Int,fM [V.int (10^(12:Int).toNat),V.int (10^(18:Int).toNat)] (if decide ((m:Int)<4)=true then (1:Int) else 0)=some (.int b)/\Rx b:=by
  cases decide ((m:Int)<4) with
  | true=>exact⟨_,rfl,.inr rfl⟩
  | false=>exact⟨_,rfl,.inl rfl⟩
 refine⟨_,rfl,_,_,rfl,rfl,.inr ⟨_,rfl,lb,_,_,_,rfl,rfl,aV.of hb1,hb,?_⟩⟩;dsimp only[bC];have ha1:=u1.seq ha;obtain⟨d0,hd0⟩:∃d0:Int,fM (ns.map V.int) 0=some (.int d0):=⟨ns.getD 0 0,fZ (j:=0) (by lia)⟩;refine⟨_,rfl,a,_,_,_,rfl,rfl,ha1,hd0,_,_,rfl,rfl,⟨by decide,by decide⟩,kY,fun lz hlz=>?_⟩;have v2:=aJ.aI (o:=.lst [V.int 13,V.int 6]) hlz;have hz2:upd H1 lz (.lst [V.int 13,V.int 6]) lz=some (.lst [V.int 13,V.int 6]):=aC;generalize upd H1 lz (.lst [V.int 13,V.int 6])=H2 at v2 hz2|-;have u2:=u1.trans v2;obtain⟨w,hw,w12⟩:∃w:Int,fM [V.int 13,V.int 6] (if decide ((4:Int)<(m:Int))=true then (1:Int) else 0)=some (.int w)/\(0<w/\w<=13):=by
  cases decide ((4:Int)<(m:Int)) with
  | true=>exact⟨6,rfl,by decide⟩
  | false=>exact⟨13,rfl,by decide⟩
 refine⟨_,rfl,_,_,rfl,rfl,.inr ⟨_,rfl,lz,_,_,_,rfl,rfl,aV.of hz2,hw,_,_,rfl,rfl,w12.1,?_⟩⟩;obtain⟨mo,hmo,mo12⟩:∃mo:Int,mo=d0/18%w/\mo<=12:=⟨_,rfl,by have:=qEo (d0/18) w12.1;lia⟩;dsimp only;rw[<- hmo];dsimp only[bC];refine⟨by show 0<=qAg;decide,fun ls hls=>?_⟩;have fls:H ls=none:=u2.free hls;have u3:=u2.trans (aJ.aI (o:=.lst []) hls);have h3:upd H2 ls (.lst []) ls=some (.lst (cS [])):=aC;generalize upd H2 ls (.lst [])=H3 at u3 h3|-;dsimp only[bC];clear hz2 v2 hb1;refine⟨fun q σ' H'=>∃(rows:List qK) (at_:Nat) (o:Option V),q=1000-at_/\at_<=300/\aJ H H'/\H' ls=some (.lst (cS rows))/\rows.length<=12/\(∀r∈rows,iJ ls H' r.1 m r.2)/\nH sp rows/\σ'=[some (.ref a),some (.int (m:Int)),some (.str (spS sp)),some (.int b),some (.int mo),some (.ref ls),some (.int (at_:Int)),o],⟨_,[],1,none,rfl,by decide,u3,h3,by decide,(fun r hr=>by cases hr),⟨(fun r hr=>by cases hr),fun i j r r' e=>by cases e⟩,rfl⟩,?_⟩;clear u3 h3 u2 hls;rintro q σ' H3 ⟨rows,at_,o,rfl,a300,u3,h3,r12,ra,one,rfl⟩;have rl:(cS rows).length=rows.length:=by unfold cS;rw[qAa]
 have ha3:=u3.seq ha;have fin:Q (.ref ls) H3:=k ls rows H3 fls u3 h3 r12 (fun r hr=>ra r hr H3 fun b o _ e=>e) one;refine⟨_,rfl,_,_,rfl,rfl,_,rfl,cU (fun h4=>?_) (fun h4=>bK ⟨_,rfl,fin⟩)⟩;have hat:(at_:Int)<120:=of_decide_eq_true h4;refine⟨_,rfl,ls,_,rfl,.inl (aV.of h3),_,rfl,_,_,rfl,rfl,_,rfl,cU (fun h5=>?_) (fun h5=>⟨_,rfl,fin⟩)⟩;have hlt:rows.length<12:=by
  have z:=of_decide_eq_true h5;rw[rl] at z;lia
 refine⟨fun σ' H'=>∃(rows:List qK) (at':Nat) (o:Option V),at_<at'/\at'<=300/\aJ H H'/\H' ls=some (.lst (cS rows))/\rows.length<=12/\(∀r∈rows,iJ ls H' r.1 m r.2)/\nH sp rows/\σ'=[some (.ref a),some (.int (m:Int)),some (.str (spS sp)),some (.int b),some (.int mo),some (.ref ls),some (.int (at':Int)),o],(by rintro σ' H' ⟨rows,at',o,x1,x2,x3,x4,x5,x6,x7,x8⟩;exact⟨1000-at',by lia,rows,at',o,rfl,x2,x3,x4,x5,x6,x7,x8⟩),?_⟩;refine⟨_,rfl,_,rfl,_,rfl,_,rfl,a,ns,at_,m,b,rfl,hbn,ha3,hns,by lia,m1,m6,fun p ln lp bs r H4 v4 fp fln flp q1 q2 q3 q4 gr=>?_⟩;dsimp only[bC];have n63:r.ns.length<=63:=gr.zI m6;have p15:r.ps.length<=15:=gr.pl;have bl:bs.length=r.ps.length:=q4.len;have a0:fM [V.str (gA r.k),V.ref ln,V.ref lp] 0=some (.str (gA r.k)):=rfl;have a1:fM [V.str (gA r.k),V.ref ln,V.ref lp] 1=some (.ref ln):=rfl;have a2:fM [V.str (gA r.k),V.ref ln,V.ref lp] 2=some (.ref lp):=rfl;exists _,rfl,_,_,rfl,rfl,_,rfl,p,_,_,_,rfl,rfl,cQ.of q1,a1,ln,_,rfl,.inl (aV.of q2),_,_,rfl,rfl;exists _,rfl,p,_,_,_,rfl,rfl,cQ.of q1,a2,lp,_,rfl,.inl (aV.of q3),_,_,rfl,rfl;obtain⟨at',hat',at1,at3⟩:∃at':Nat,(at_:Int)+1+((r.ns.map V.int).length:Int)+((bs.map V.ref).length:Int)=(at':Int)/\at_<at'/\at'<=300:=⟨at_+1+r.ns.length+bs.length,by rw[qAa,qAa];push_cast;rfl,by lia,by lia⟩;dsimp only;rw[hat'];clear hat';dsimp only[bC];have u4:=u3.trans v4;have h4':=v4 _ _ h3;have ra4:∀r∈rows,iJ ls H4 r.1 m r.2:=fun r hr=>(ra r hr).keep fun b o _ e=>v4 _ _ e;have nls:∀{x:Addr}{G:Hp},aJ H3 G->G x=none->x≠ls:=fun sg e z=>by rw[z,sg _ _ h3] at e;cases e
 have n2:ln≠ls:=nls (.refl _) fln;have n3:lp≠ls:=nls (.refl _) flp;have kd:=xI gr.k7;refine cI (σ':=[some (.ref a),some (.int (m:Int)),some (.str (spS sp)),some (.int b),some (.int mo),some (.ref ls),some (.int (at':Int)),some (.ref p)]) rfl ?_;refine nG (fun σ2 H5=>∃(p':Addr) (r':R4),aJ H H5/\H5 ls=some (.lst (cS rows))/\(∀r∈rows,iJ ls H5 r.1 m r.2)/\iJ ls H5 p' m r'/\nH sp (rows++[(p',r')])/\σ2=[some (.ref a),some (.int (m:Int)),some (.str (spS sp)),some (.int b),some (.int mo),some (.ref ls),some (.int (at':Int)),some (.ref p')]) (fun tail=>?_) ?_
 .have one_plain:∀(p':Addr) (r':R4),r'.k≠4->r'.k≠5->nH sp (rows++[(p',r')]):=fun p' r' z4 z5=>nH.plain one z4 z5;have rowX:iJ ls H4 p m r:=iJ.of h4' q1 q2 q3 q4 gr n2 n3;exists _,rfl,p,_,_,_,rfl,rfl,cQ.of q1,a0,rfl,_,rfl;dsimp only;refine(fun(key:r.k=4\/r.k=5->_)=>(cU (fun hh=>(key (.inl (of_decide_eq_true (kd.1▸hh))))) (fun hh=>⟨_,rfl,p,_,_,_,rfl,rfl,cQ.of q1,a0,rfl,_,rfl,cU (fun hh2=>key (.inr (of_decide_eq_true (kd.2▸hh2)))) (fun hh2=>tail _ _ ⟨p,r,u4,h4',ra4,rowX,one_plain p r (fun z=>hh (by show decide _=true;rw[kd.1,z];rfl)) (fun z=>hh2 (by show decide _=true;rw[kd.2,z];rfl)),rfl⟩)⟩))) ?_;intro h45;refine dG ?_;exists _,rfl,ls,rfl,⟨_,aV.of h4'⟩;refine gJ (xs:=cS rows) (fun σ'=>∃o0:Option V,σ'=[o0,some (.str (spS sp))]) (fun i _=>(rows[i]?).bind fun r=>if r.2.k=sp/\sp≠0 then some (V.ref r.1) else none) ⟨_,rfl⟩ (aV.of h4') (by rw[rl];exact qBb (aO (by lia))) (fun i x σ1 H5 kk kk0 hσ s5 hx g1 g2=>?_) fun D H5 hD s5 hd=>?_
  .obtain⟨o0,rfl⟩:=hσ;unfold cS at hx;rw[qAf] at hx;cases e:rows[i]? with
   | none=>rw[e] at hx;cases hx
   | some y =>
    rw[e] at hx;cases hx;obtain⟨yn,yp,ybs,y1,y2,y3,y4,y5⟩:=ra4 y (qAq e) H5 fun b o _ e=>s5 _ _ e;have b0:fM [V.str (gA y.2.k),V.ref yn,V.ref yp] 0=some (.str (gA y.2.k)):=rfl;have es:=Pn y5.k7 hsp;refine⟨_,rfl,y.1,_,_,_,rfl,rfl,cQ.of y1,b0,_,rfl,rfl,_,rfl,cU (fun hh=>?_) (fun hh=>?_)⟩
    .have z:=of_decide_eq_true (es▸hh);exact⟨_,rfl,g1 _ _ ⟨_,rfl⟩ (by rw[e];exact if_pos z) _ (.refl _)⟩
    .exact g2 _ ⟨_,rfl⟩ (by rw[e];exact if_neg fun z=>hh (by show decide _=true;rw[es];exact decide_eq_true z)) _ (.refl _)
  have h5':=s5 _ _ h4';obtain⟨xs,hxs,hxn⟩:∃xs:List V,H5 D=some (.lst xs)/\(xs=[]->sp≠0->∀y∈rows,¬(y.2.k=4\/y.2.k=5)):=⟨_,hd,fun hn h0 y hy h45=>by
   obtain⟨i,hi⟩:=List.mem_iff_getElem?.mp hy;have hil:i<rows.length:=(List.getElem?_eq_some_iff.mp hi).1;have z:=List.filterMap_eq_nil_iff.mp hn i (List.mem_range.mpr (by rw[rl];exact hil));have e1:(cS rows)[i]?=some (V.ref y.1):=by unfold cS;rw[qAf,hi];rfl
   rw[e1] at z;have z:(rows[i]?).bind (fun r=>if r.2.k=sp/\sp≠0 then some (V.ref r.1) else none)=none:=z;rw[hi] at z;have z:(if y.2.k=sp/\sp≠0 then some (V.ref y.1) else none)=none:=z;rw[if_pos ⟨one.1 y hy h45,h0⟩] at z;cases z⟩
  clear hd
  refine⟨by show 0<=qAg;decide,fun l6 Er=>?_⟩;have v6:=aJ.aI (o:=.lst []) Er;have h6l:upd H5 l6 (.lst []) l6=some (.lst []):=aC;generalize upd H5 l6 (.lst [])=H6 at v6 h6l|-;have s6:=s5.trans v6;have u6:=u4.trans s6;have h6':=s6 _ _ h4';have ra6:∀r∈rows,iJ ls H6 r.1 m r.2:=fun r hr=>(ra4 r hr).keep fun b o _ e=>s6 _ _ e;exists D,l6,xs,rfl,rfl,aV.of (v6 _ _ hxs),aV.of h6l,_,rfl;have none_:∀(D':Ends),(∀p' H7,aJ H H7->H7 ls=some (.lst (cS rows))->(∀r∈rows,iJ ls H7 r.1 m r.2)->iJ ls H7 p' m ⟨0,[],[],0⟩->D'.nx [some (.ref a),some (.int (m:Int)),some (.str (spS sp)),some (.int b),some (.int mo),some (.ref ls),some (.int (at':Int)),some (.ref p')] H7)->Ib (ML (lB (tC (V.str ("none":Str))) (lB (Ii kD) (lB (Ii kD) kD)))) (bC 7) D' [some (.ref a),some (.int (m:Int)),some (.str (spS sp)),some (.int b),some (.int mo),some (.ref ls),some (.int (at':Int)),some (.ref p)] H6:=fun D' kk=>by
   refine⟨by show 0<=qAg;decide,fun l7 hl7=>⟨by show 0<=qAg;decide,fun l8 hl8=>⟨Cb,fun p9 hp9=>?_⟩⟩⟩;have v7:=aJ.aI (o:=.lst []) hl7;have e7:upd H6 l7 (.lst []) l7=some (.lst (([]:List Int).map V.int)):=aC;generalize upd H6 l7 (.lst [])=H7 at v7 e7 hl8 hp9|-;have v8:=aJ.aI (o:=.lst []) hl8;have e8:upd H7 l8 (.lst []) l8=some (.lst (([]:List Addr).map V.ref)):=aC;generalize upd H7 l8 (.lst [])=H8 at v8 e8 hp9|-;have v9:=aJ.aI (o:=.tup [.str ("none":Str),.ref l7,.ref l8]) hp9;have e9:upd H8 p9 (.tup [.str ("none":Str),.ref l7,.ref l8]) p9=some (.tup [.str (gA 0),.ref l7,.ref l8]):=aC;have s9:=v7.trans (v8.trans v9);exact kk p9 _ (u6.trans s9) (s9 _ _ h6') (fun r hr=>(ra6 r hr).keep fun b o _ e=>s9 _ _ e) (iJ.of (r:=⟨0,[],[],0⟩) (s9 _ _ h6') e9 ((v8.trans v9) _ _ e7) (v9 _ _ e8)  .nil good_none (nls ((v4.trans s6)) hl7) (nls (v4.trans (s6.trans v7)) hl8))
  have nn:∀p' H7,aJ H H7->H7 ls=some (.lst (cS rows))->(∀r∈rows,iJ ls H7 r.1 m r.2)->iJ ls H7 p' m ⟨0,[],[],0⟩->_:=fun p' H7 x1 x2 x3 x4=>tail _ H7 ⟨p',⟨0,[],[],0⟩,x1,x2,x3,x4,one_plain _ _ #[1] #[1],rfl⟩;refine cU (fun hh=>dG (none_ _ nn)) (fun hh=>⟨_,rfl,rfl,_,rfl,cU (fun hh2=>none_ _ nn) (fun hh2=>?_)⟩);have sd:=Ls hsp;have sp0:sp≠0:=fun z=>hh2 (by show decide _=true;rw[sd.1];exact decide_eq_true z);have no45:=hxn (by
   by_cases z:xs=[]
   .exact z
   .exact absurd (decide_eq_true z) hh) sp0
  clear none_ nn hxn
  have q1':=s6 _ _ q1;have q2':=s6 _ _ q2;have q3':=s6 _ _ q3;have k45:r.ns.length=0\/r.ns.length=m:=by
   have z:=gr.sz;rcases h45 with h | h <;> rw[h] at z
   .exact .inl z
   .exact .inr z
  obtain⟨n7,hn7⟩:∃n7:Nat,r.ns.length+n7=m:=⟨m-r.ns.length,by lia⟩;have n7':(m:Int)-((r.ns.map V.int).length:Int)=(n7:Int):=by rw[qAa];lia
  refine⟨_,rfl,by show 0<=qAg;decide,fun l7 hl7=>?_⟩;have v7:=aJ.aI (o:=.lst []) hl7;have e7:upd H6 l7 (.lst []) l7=some (.lst (([]:List Int).map V.int)):=aC;generalize upd H6 l7 (.lst [])=H7 at v7 e7|-;refine⟨_,rfl,p,_,_,_,rfl,rfl,cQ.of (v7 _ _ q1'),a1,mH,fun l8 hl8=>?_⟩;have v8:=aJ.aI (o:=.lst [V.int 7]) hl8;have e8:upd H7 l8 (.lst [V.int 7]) l8=some (.lst [V.int 7]):=aC;generalize upd H7 l8 (.lst [V.int 7])=H8 at v8 e8|-;have w8:=v7.trans v8;exists _,rfl,_,rfl,p,_,_,_,rfl,rfl,cQ.of (w8 _ _ q1'),a1,ln,_,rfl,.inl (aV.of (w8 _ _ q2')),_,_,rfl,rfl;dsimp only;rw[n7'];refine⟨l8,_,_,rfl,rfl,e8,by lia,by lia,by rw[qBv];show 1*n7<=qAg;exact qBb (aO (by lia)),fun l9 hl9=>?_⟩;rw[qBv,sV];have v9:=aJ.aI (o:=.lst ((qBq n7 (7:Int)).map V.int)) hl9;have e9:upd H8 l9 (.lst ((qBq n7 (7:Int)).map V.int)) l9=some (.lst ((qBq n7 (7:Int)).map V.int)):=aC;generalize upd H8 l9 (.lst ((qBq n7 (7:Int)).map V.int))=H9 at v9 e9|-;have w9:=w8.trans v9;refine⟨ln,l9,_,_,rfl,rfl,aV.of (w9 _ _ q2'),aV.of e9,by rw[qAa,qAa,qHw];exact qBb (aO (by lia)),fun la hla=>?_⟩;rw[<- qBw];have va:=aJ.aI (o:=.lst ((r.ns++qBq n7 7).map V.int)) hla;have ea:upd H9 la (.lst ((r.ns++qBq n7 7).map V.int)) la=some (.lst ((r.ns++qBq n7 7).map V.int)):=aC;have hla3:la≠ls:=nls (v4.trans (s6.trans w9)) hla;have hl73:l7≠ls:=nls (v4.trans s6) hl7;generalize upd H9 la (.lst ((r.ns++qBq n7 7).map V.int))=Ha at va ea|-;have wa:=w9.trans va;have e7a:=((v8.trans v9).trans va) _ _ e7;refine⟨kY,fun lc hlc=>?_⟩;have vc:=aJ.aI (o:=.lst [V.ref l7,V.ref la]) hlc;have ec:upd Ha lc (.lst [V.ref l7,V.ref la]) lc=some (.lst [V.ref l7,V.ref la]):=aC;generalize upd Ha lc (.lst [V.ref l7,V.ref la])=Hc at vc ec|-;have wc:=wa.trans vc;have sc:=s6.trans wc;have eac:=vc _ _ ea;have e7c:=vc _ _ e7a;have uc:=u4.trans sc;have hlsc:=sc _ _ h4';have rac:∀r∈rows,iJ ls Hc r.1 m r.2:=fun r hr=>(ra4 r hr).keep fun b o _ e=>sc _ _ e;clear e8 e9 v8 v9 va vc ea e7a e7;rcases hsp with rfl | rfl | rfl
  .exact absurd rfl sp0
  .refine⟨_,rfl,rfl,.inr ⟨_,rfl,lc,_,_,_,rfl,rfl,aV.of ec,rfl,_,rfl,p,_,_,_,rfl,rfl,cQ.of (sc _ _ q1),a2,Cb,fun pd hpd=>?_⟩⟩;have vd:=aJ.aI (o:=.tup [.str (spS 4),.ref l7,.ref lp]) hpd;have ed:upd Hc pd (.tup [.str (spS 4),.ref l7,.ref lp]) pd=some (.tup [.str (gA 4),.ref l7,.ref lp]):=aC;have sd':=sc.trans vd;refine⟨_,rfl,rfl,_,rfl,bK ?_⟩;exact tail _ _ ⟨pd,⟨4,[],r.ps,0⟩,uc.trans vd,vd _ _ hlsc,(fun r hr=>(rac r hr).keep fun b o _ e=>vd _ _ e),iJ.of (r:=⟨4,[],r.ps,0⟩) (vd _ _ hlsc) ed (vd _ _ e7c) (sd' _ _ q3) (q4.imp fun _ _ z=>z.keep sd'.t) (zL gr) hl73 n3,.first no45 rfl,rfl⟩
  .refine⟨_,rfl,rfl,.inr ⟨_,rfl,lc,_,_,_,rfl,rfl,aV.of ec,rfl,_,rfl,p,_,_,_,rfl,rfl,cQ.of (sc _ _ q1),a2,Cb,fun pd hpd=>?_⟩⟩;have vd:=aJ.aI (o:=.tup [.str (spS 5),.ref la,.ref lp]) hpd;have ed:upd Hc pd (.tup [.str (spS 5),.ref la,.ref lp]) pd=some (.tup [.str (gA 5),.ref la,.ref lp]):=aC;have sd':=sc.trans vd;have ead:=vd _ _ eac;have hlsd:=vd _ _ hlsc;generalize upd Hc pd (.tup [.str (spS 5),.ref la,.ref lp])=Hd at vd ed sd' ead hlsd|-;have b1:fM [V.str (gA 5),V.ref la,V.ref lp] 1=some (.ref la):=rfl;have b2:fM [V.str (gA 5),V.ref la,V.ref lp] 2=some (.ref lp):=rfl;have q3d:=sd' _ _ q3;have q4d:A2 (dW Hd) bs r.ps:=q4.imp fun _ _ z=>z.keep sd'.t;refine⟨_,rfl,rfl,_,rfl,dG ?_⟩;exists _,rfl,pd,_,_,_,rfl,rfl,cQ.of ed,b1,_,rfl,pd,_,_,_,rfl,rfl,cQ.of ed,b2,lp,rfl,⟨_,aV.of q3d⟩;refine pM (xs:=bs.map V.ref) (fun σ'=>∃o0 o1 o2:Option V,σ'=[o0,o1,o2]) (fun i y H'=>∃b p,y = .ref b/\(xJ r.ps)[i]?=some p/\dW H' b p) (by rintro i y G G' s ⟨b,p,e,e2,r⟩;exact ⟨b,p,e,e2,r.keep s⟩) ⟨_,_,_,rfl⟩ (aV.of q3d) (by rw[qAa,q4d.len];exact qBb (aO (by lia))) (fun i x σ1 H8 kk kk0 hσ s8 hx g1=>?_) fun lp' ys He hlp' se hy hR hde=>?_
   .obtain⟨o0,o1,o2,rfl⟩:=hσ;rw[qAf] at hx;cases e:bs[i]? with
    | none=>rw[e] at hx;cases hx
    | some bb =>
     rw[e] at hx;cases hx;obtain⟨q,hq,r'⟩:=q4d.BR i bb e;exists bb,_,rfl,cQ.of (s8 _ _ r'),rfl,_,_,rfl,_,_,rfl,_,_,rfl,rfl;exists _,rfl,_,rfl,_,rfl,_,rfl;rw[abs_eq];refine⟨Cb,fun p hp=>g1 _ _ _ ⟨_,_,_,rfl⟩ (.aI hp) ⟨p,(q.1,q.2.1,(q.2.2.natAbs:Int)),rfl,by unfold xJ;rw[qAf,hq];rfl,aC⟩⟩
   rw[qAa,q4d.len] at hy;obtain⟨bs2,rfl,a8⟩:=A2.Aq (by unfold xJ;rw[qAa];exact hy) hR;refine⟨Cb,fun pf hpf=>?_⟩;have vf:=aJ.aI (o:=.tup [.str ("net":Str),.ref la,.ref lp']) hpf;have ef:upd He pf (.tup [.str ("net":Str),.ref la,.ref lp']) pf=some (.tup [.str (gA 5),.ref la,.ref lp']):=aC;have sf:=vd.trans (se.trans vf);exact tail _ _ ⟨pf,⟨5,r.ns++qBq n7 7,xJ r.ps,0⟩,uc.trans sf,sf _ _ hlsc,(fun r hr=>(rac r hr).keep fun b o _ e=>sf _ _ e),iJ.of (r:=⟨5,r.ns++qBq n7 7,xJ r.ps,0⟩) (sf _ _ hlsc) ef (sf _ _ eac) (vf _ _ hde) (a8.imp fun _ _ z=>z.keep vf.t) (Et gr h45 hn7) hla3 (nls (v4.trans (sc.trans vd)) hlp'),.first no45 rfl,rfl⟩
 .rintro σ2 H5 ⟨p',r',u5,h5',ra5,rx,one5,rfl⟩;refine⟨_,rfl,.inl ⟨rfl,_,aV.of h5'⟩,_,rfl,ls,_,_,rfl,rfl,h5',by rw[rl];exact aO (by lia),?_⟩;have kp:∀b o,b≠ls->H5 b=some o->upd H5 ls (.lst (cS rows++[V.ref p'])) b=some o:=fun b o n e=>by rw[aQ n];exact e
  refine⟨rows++[(p',r')],at',_,at1,at3,u5.upd_ne' fls,?_,by rw[qAo];show _+1<=_;lia,fun r'' hr=>?_,one5,rfl⟩
  .rw[aC];unfold cS;rw[qBw];rfl
  .rcases List.mem_append.mp hr with y | y
   .exact(ra5 r'' y).keep kp
   .rw[qCz] at y;rw[y];exact rx.keep kp
theorem Au:∀{l:List Int},(∀n∈l,n.natAbs<=B)->l.sum.natAbs<=l.length*B
 | [],_=>qBf _
 | a::r,h=>by
  have h1:=h a qBn;have h2:=Au (l:=r) fun n hn=>h n (qAs _ hn);have h3:=qJf a r.sum;rw[qCh,qAw,qJi];lia
theorem zM{B:Nat}{ns:List Int}(h:∀n∈ns,n.natAbs<=B)(i:Nat):(ns.getD i 0).natAbs<=B:=by
 rw[qAj];cases e:ns[i]? with
 | none=>exact qBf _
 | some n=>exact h n (qAq e)
theorem HF{B:Nat}{ns:List Int}{g:Nat}(h:∀n∈ns,n.natAbs<=B):∀n,(g9 ns g n).natAbs<=n*B
 | 0=>qBf _
 | n+1=>by
  have h1:=HF (g:=g) h n;have h2:=zM h n;have h3:=qJf (g9 ns g n) (ns.getD n 0);show(if g/2^n%2=1 then g9 ns g n+ns.getD n 0 else g9 ns g n).natAbs<=_;rw[qJi];split <;> lia
theorem Good.b{B:Nat}{ps:List P3}{b g:Nat}{s:Int}{r:List (Nat×Nat)}(h:Good ps b g s r)(hp:∀p∈ps,p.2.2.natAbs<=B):s.natAbs<=(6-b)*B:=by
 induction h with
 | nil=>exact qBf _
 | @cons b g i j n s r h1 h2 h3 h4 h5 h6 _ ih =>
  have z1:n.natAbs<=B:=hp _ h6;have z2:=qJf n s;have z3:(6-(i+1))*B+B=(6-i)*B:=by rw[show 6-i=(6-(i+1))+1 by lia,qJi]
  have z4:(6-i)*B<=(6-b)*B:=qEd _ (by lia);lia
theorem Lv{B:Nat}{cs:List Int}{rs:List P3}(h1:∀n∈cs,n.natAbs<=B)(h2:∀p∈rs,p.2.2.natAbs<=B):∀p∈allR cs rs,p.2.2.natAbs<=B:=fun p hp=>by
 rcases List.mem_append.mp hp with z | z
 .obtain⟨i,_,rfl⟩:=List.mem_map.mp z;exact zM h1 i
 .exact h2 p z
theorem Er:∀g:_root_.Fin 64,(dH g.1).length<=6:=by decide +kernel
theorem Lw(h1:∀n∈cs,n.natAbs<=B)(h2:∀p∈rs,p.2.2.natAbs<=B)(h6:cs.length<=6)(pw:Pw cs.length rs)(hg:g<64):(gainN cs rs g).natAbs<=6*B:=by
 delta gainN;rw[Int.natAbs_neg];by_cases e:∃L,Run (allR cs rs) (g+64) 64 L
 .obtain⟨L,hL⟩:=e;rw[oR hL];obtain⟨n1,_,n3,_⟩:=gK (iW h6 pw) hg hL;have z:=Au (B:=B) (l:=L.map (·.2.2)) fun n hn=>by
   obtain⟨p,hp,rfl⟩:=List.mem_map.mp hn;exact Lv h1 h2 p (n1 p hp).1
  rw[qAa,n3] at z;exact qAx z (qEd _ (Er ⟨g,hg⟩))
 .delta netL;rw[dif_neg e];exact qBf _
theorem pw_of(g:GoodR m r):Pw m r.ps:=by
 refine⟨fun p hp=>⟨(g.pb p hp).1,(g.pb p hp).2.1⟩,?_⟩;refine List.pairwise_map.mpr (g.qI.imp fun {p q} z e=>?_);have e1:=congrArg Prod.fst e;have e2:=congrArg Prod.snd e;dsimp only at e1 e2;lia
theorem pw_six(h:Pw m ps)(m6:m<=6):Pw 6 ps:=⟨fun p hp=>⟨(h.1 p hp).1,qAr (h.1 p hp).2 m6⟩,h.2⟩
theorem Rz{m:Nat}{r:R4}(gs:jY m r)(m6:m<=6){g:Nat}(hg:g<2^m):(eS r g).natAbs<=63*10^19:=by
 have h64:2^m<=64:=qBt (n:=2) #[1] m6;have hn:∀n∈r.ns,n.natAbs<=10^19:=fun n hn=>qBb (gs.bn n hn);have hp:∀p∈r.ps,p.2.2.natAbs<=10^19:=fun p hp=>qBb (gs.bp p hp);have n63:r.ns.length<=63:=gs.zI m6;have k7:=gs.k7;have p15:=gs.pl;have gd:=zM hn;generalize hB:(10:Nat)^19=B at hn hp gd;delta eS;by_cases h4:r.k=4
 .rw[if_pos h4];have z:=(sO (pw_six (pw_of gs.toGoodR) m6).1 g (by lia)).b hp;lia
 rw[if_neg h4];by_cases h5:r.k=5
 .rw[if_pos h5];have nl:r.ns.length=m:=by rw[gs.sz,h5];rfl
  have z:=Lw (g:=g) hn hp (by lia) (nl▸pw_of gs.toGoodR) (by lia);lia
 rw[if_neg h5];delta eR;have hk:r.k=0\/r.k=1\/r.k=2\/r.k=3\/r.k=6:=by lia
 rcases hk with hk | hk | hk | hk | hk <;> rw[hk]
 .exact qBf _
 .have z:=HF (g:=g) hn r.ns.length;have z2:=qEd B n63;show(g9 r.ns g r.ns.length).natAbs<=_;lia
 .show(w4 r.ps g).natAbs<=_;delta w4;have z:=Au (B:=B) (l:=r.ps.filterMap fun p=>if both g p.1 p.2.1=true then some p.2.2 else none) fun n hn=>by
   obtain⟨p,hp',e⟩:=List.mem_filterMap.mp hn;split at e
   .cases e;exact hp p hp'
   .cases e
  have l1:=qCy (fun p:P3=>if both g p.1 p.2.1=true then some p.2.2 else none) r.ps;have z2:=qEd B (show(r.ps.filterMap fun p=>if both g p.1 p.2.1=true then some p.2.2 else none).length<=15 by lia);lia
 .show(rC (r.ns.getD 0 0) (r.ns.getD 1 0) (r.ns.drop 2) g).natAbs<=_;delta rC;have z:=gd 1;split
  .lia
  .exact qBf _
 .show((0::r.ns).getD g 0).natAbs<=_;cases g with
  | zero=>exact qBf _
  | succ j =>
   have z:(r.ns.getD j 0).natAbs<=B:=gd j;have e:(0::r.ns).getD (j+1) 0=r.ns.getD j 0:=rfl;rw[e];lia
theorem Po(rs:List P3):netL rs 0=[]:=oR .stop
theorem Eu:∀ps:List P3,w4 ps 0=0
 | []=>rfl
 | p::r=>by
  have ih:=Eu r;unfold w4 at ih|-;have e:both 0 p.1 p.2.1=false:=by unfold both;rw[qOe];rfl
  rw[qCf,e];exact ih
theorem Ew(ns:List Int):∀n,g9 ns 0 n=0
 | 0=>rfl
 | n+1=>by
  show(if 0/2^n%2=1 then _ else g9 ns 0 n)=0;rw[qOe,if_neg (by decide)];exact Ew ns n
theorem RA(gs:GoodR m r):eS r 0=0:=by
 have k7:=gs.k7;delta eS;by_cases h4:r.k=4
 .rw[if_pos h4];rfl
 rw[if_neg h4];by_cases h5:r.k=5
 .rw[if_pos h5];delta gainN;rw[Po];rfl
 rw[if_neg h5];delta eR;have hk:r.k=0\/r.k=1\/r.k=2\/r.k=3\/r.k=6:=by lia
 rcases hk with hk | hk | hk | hk | hk <;> rw[hk]
 .rfl
 .exact Ew _ _
 .exact Eu _
 .show rC (r.ns.getD 0 0) (r.ns.getD 1 0) (r.ns.drop 2) 0=0;have q1:=gs.q1 hk;delta rC nA;rw[Ew,if_neg (by lia)]
 .rfl
theorem xK(hl:(0::ns).length=2^m)(hn:∀n∈ns,n.natAbs<10^30):GoodR m ⟨6,ns,[],0⟩:=by
 exists by show 6<7;decide,?_,hn,.nil,?_,by show 0<=15;decide,?_,?_
 .show ns.length=2^m-1;rw[<- hl];rfl
 .intro p z;cases z
 .intro _ _ _;rfl
 .intro z;cases z
 .intro z;cases z
def HG(K:qAb):Sp:=fun vs H Q _=>∃(p:Addr) (ns:List Int) (m:Nat),vs=[.ref p]/\H p=some (.lst ((0::ns).map V.int))/\(0::ns).length=2^m/\1<=m/\m<=6/\(∀n∈ns,n.natAbs<10^30)/\∀H',aJ H H'->Q (.str (Gi m [dZ ⟨6,ns,[],0⟩])) H'
theorem Pp:aN ["table"] ["table"] (aH Jx):=#[1,2]
theorem Lx(t:Tx K mg "shown" Jx ["table"] f fd)(T:#[4])(Z:ZR P w K mg base AL LN RU OW PL PA VO MA NE fE fH rR rO rP rA rV rM rN iR iO iP iA iV iM iN fL wR wO wP wA wV wM wN CO iC cH cE cW cT fN SE NG NL NT)(D_hands_in:#[1,1] 3 "hands_in" ["table"] (DG K NT) f1 fd1)
  (D_CI:#[1,0] 4 ["self","many","rules"] (Gh P w K mg base fE fH RU CO NL) iC) (D_CW:#[1,0] 4 ["self"] (Gj P w K mg base fE fH RU CO) cW) :
  #[5] 8 "shown" ["table"] (HG K) f fd:=by
 refine t.jI Pp (by rintro _ _ _ _⟨p,ns,m,rfl,_⟩;rfl) fun _ _ _ _ H vs Q E hr h=>?_;obtain⟨p,ns,m,rfl,hp,hl,m1,m6,hn,k⟩:=h;have D_PI:=Z.PI;refine⟨_,(aG (aS (fO (k:=4) bY (eN bY T.RT D_CI hr #[1] #[0] T.Mr (aA (fA bY D_hands_in hr #[1] #[0] (aA (pv 0) aB)) (aA (bO (aA (eN bY T.RP D_PI hr #[1] #[0] T.Mp (aA (pv 0) aB)) aB)) aB))) hr #[1]))),?_⟩;have h64:=FF m6;have ok:=An hl m1 m6;have g6:GoodR m ⟨6,ns,[],0⟩:=xK hl hn;refine⟨_,rfl,p,_,rfl,hp,lR,by rw[qAa];lia,(fun no=>by rw[ok] at no;cases no),fun m' m1' m6' hm' _ H1 s1=>?_⟩;obtain rfl:m'=m:=by
  rw[qAa,hl] at hm';have inj:∀a b:_root_.Fin 7,2^a.1=2^b.1->b.1=a.1:=by decide
  exact inj ⟨m,by lia⟩ ⟨m',by lia⟩ hm'
 refine⟨_,rfl,fun x dx hx hdx ne=>wX hx hdx ne (s1 _ _ hp) hl m1 m6 fun l H2 hl' s2 e1 e2=>⟨rfl,?_⟩⟩;have ob:zJ P w K mg base fE fH RU H2 x m' ⟨6,ns,[],0⟩:=xA T Z g6 rfl m1 m6 e1 e2 H2 (fun _ _ _ e=>e) (aJ.refl _).t;obtain⟨e,r1,r2,r3⟩:=ob;refine⟨mH,fun lr hlr=>?_⟩;have u3:=aJ.aI (o:=.lst [V.ref x]) hlr;have hr3:upd H2 lr (.lst [V.ref x]) lr=some (.lst (refs [(x,m',e)])):=aC;generalize upd H2 lr (.lst [V.ref x])=H3 at u3 hr3|-;have ro:nU P w K mg base fE fH RU H3 [(x,m',e)]:=fun o ho=>by
  rw[qCz] at ho;subst ho;exact r1.same u3
 have om:∀o∈[(x,m',e)],o.2.1=m':=fun o ho=>by
  rw[qCz] at ho;subst ho;rfl
 refine fun c dc hc hdc ne=>Ao hc hdc ne hr3 (by show 1<=12;decide) ro om m1 m6 fun lc H6 hlc s6 hc6 hlc6=>⟨rfl,?_⟩;refine⟨c,CO,dc,_,cW,_,rfl,hc6,rfl,T.kX.oc.cl,T.kX.mw,⟨_,D_CW⟩,c,m',[(x,m',e)],[dZ ⟨6,ns,[],0⟩],rfl,⟨dc,lc,hc6,hlc6,by show 1<=12;decide,m1,m6,ro.same s6,om⟩,rfl,(fun i o tx a b=>?_),(fun t ht=>?_),fun H7 s7=>k H7 (((s1.trans s2).trans u3).trans (s6.trans s7))⟩
 .cases i with
  | zero =>
   cases a
   cases b
   exact(r2.same u3).same s6
  | succ i=>cases a
 .rw[qCz] at ht;subst ht;exact qAx (qD g6 m6 (.refl _)) #[1]
theorem Ey{x:V}{A B:Prop}(h:B):if (!decide (x=x))=true then A else B:=by
 rw[decide_eq_true rfl];exact bK h
def hb(g i:Nat):Option Int:=if g/2^i%2=1 then some (i:Int) else none
theorem xM:∀g:_root_.Fin 64,(qAh 6).filterMap (hb g.1)=dH g.1:=by decide +kernel
theorem Gu{α:Type}{f:α->Option Int}{xs:List α}{d M:Int}(h1:M∈d::xs.filterMap f)(h2:∀a,a∈d::xs.filterMap f->a<=M):Ca f d xs=M:=by
 have z1:Ca f d xs<=M:=by
  rcases GS (f:=f) (xs:=xs) (d:=d) with e | ⟨x,hx,e⟩
  .rw[e];exact h2 d qBn
  .exact h2 _ (qAs _ (List.mem_filterMap.mpr ⟨x,hx,e⟩))
 have z2:M<=Ca f d xs:=by
  rcases List.mem_cons.mp h1 with e | h
  .rw[e];exact DN
  .obtain⟨x,hx,e⟩:=List.mem_filterMap.mp h;exact DO e hx
 lia
def HH(K:qAb):Sp:=fun vs H Q _=>∃(ls lp:Addr) (bs:List Addr) (ps:List P3) (m:Nat),vs=[.ref ls,.ref lp]/\aV K H ls (((qAh (2^m)).map fun g=>(bI ps g).1).map V.int)/\H lp=some (.lst (bs.map V.ref))/\A2 (dW H) bs ps/\Pw m ps/\ps.length<=15/\m<=6/\∀H',aJ H H'->Q (.bl true) H'
theorem qG:aN ["_law_sums","_law_pairs","_law_group","_law_least","_law_ways","_law_one","_law_other","_law_number_here"] ["_law_sums","_law_pairs"] (aH JF):=#[1,2]
theorem Ly(t:Tx K mg "_law_matched" JF ["_law_sums","_law_pairs"] f fd)(T:#[4]):#[5] 1 "_law_matched" ["_law_sums","_law_pairs"] (HH K) f fd:=by
 refine t.jI qG (by rintro _ _ _ _⟨ls,lp,bs,ps,m,rfl,_⟩;rfl) fun _ _ _ _ H vs Q E hr h=>?_;obtain⟨ls,lp,bs,ps,m,rfl,hls,hlp,a2,pw,p15,m6,k⟩:=h;refine⟨_,(aD (dJ #[9] rfl (j3 #[0] T.cO (aA aE (aA (aM aU #[0] T.cG bV (aA (pv 0) aB)) aB))) (aK (i:=2) qG.nd rfl #[3])
   (aD (bB (i:=3) qG.nd rfl cC (aX bF (bP (NB:=["_law_hand","_law_group"]) (pick:=[none,some 2]) (bT #[7] (by exact(And.intro rfl trivial)) rfl #[2] #[2] #[0] #[0]) rfl
    (c8 #[0] T.cO (aA aE aB)) (fun _ _ _=>aK (i:=0) #[8,["_law_hand","_law_group"]] rfl cC)
    (fun _ _ _=>gL (aP bU (aL fG (aL iB (pv 1) (pv 0)) aE) aE (aT _))) (fun _ _ _=>(pv 0))) aE #[6]))
   (aD (bB (i:=4) qG.nd rfl cC (bO (aA (aX bF (pv 0) (aL eW (pv 2) (aL oZ aE (pv 3))) #[6]) aB)))
   (aD (dJ #[9] rfl (bM (pv 1)) (eL rfl (bA (aK (i:=5) qG.nd rfl cC) (bA (aK (i:=6) qG.nd rfl cC) (bA (aK (i:=7) qG.nd rfl cC) dC))))
    (aG (bN (PW.pt (pw_and (aP bU (pv 5) (pv 3) (aT _)) (pw_and1 (aP bU (aL fG (aL iB (pv 2) (pv 6)) aE) aE (aT _))))) (aG (bQ (eD qCp qCk qCj dN (pv 4) (aA (aL cR (aX bF (pv 0) (aL eW (aL eW (pv 2) (aL oZ aE (pv 5))) (aL oZ aE (pv 6))) #[6]) (pv 7)) aB)))) aZ)))
   (aG (bN (aP hV (aX bF (pv 0) (pv 2) #[6]) (aM (Bt rfl) #[0] T.nQ tS (aA (pv 4) aB)) (aT _)) (aG (aS gW)) aZ))))))
  (aG (aS gW))),?_⟩
 have h64:2^m<=64:=qBt (n:=2) #[1] m6;have hpos:1<=2^m:=qFt;have al:=a2.len;have pw6:=pw_six pw m6;have sl:(((qAh (2^m)).map fun g=>(bI ps g).1).map V.int).length=2^m:=by rw[qAa,qAa,qBg]
 have at_:∀g:Nat,g<2^m->fM (((qAh (2^m)).map fun g=>(bI ps g).1).map V.int) (g:Int)=some (.int (bI ps g).1):=fun g hg=>by
  have z:=fZ (rs:=(qAh (2^m)).map fun g=>(bI ps g).1) (j:=g) (by rw[qAa,qBg];exact hg);rw[z,qAj,qAf,qDx hg];rfl
 generalize ((qAh (2^m)).map fun g=>(bI ps g).1).map V.int=ss at hls sl at_;refine⟨_,rfl,ls,ss,rfl,.inl hls,1,_,rfl,⟨by decide,by decide,by lia,by lia⟩,?_⟩;rw[sl,show(((2^m:Nat):Int)-1).toNat=2^m-1 by lia];refine eC (n:=2^m-1) (fun i σ' H'=>aJ H H'/\∃o2 o3 o4 o5 o6 o7:Option V,σ'=[some (.ref ls),some (.ref lp),o2,o3,o4,o5,o6,o7]) ⟨.refl _,_,_,_,_,_,_,rfl⟩ ?_ ?_
 .rintro i σ' H1 hi ⟨s1,o2,o3,o4,o5,o6,o7,rfl⟩;obtain⟨g,hg⟩:∃g:Nat,(1:Int)+(i:Int)=(g:Int)/\g≠0/\g<2^m:=⟨i+1,by lia,by lia,by lia⟩;obtain⟨hge,g0,g2⟩:=hg;rw[hge];clear hge hi;have g64:g<64:=by lia
  obtain⟨l6,lb,lmin,lh,_⟩:=lo_facts ⟨g,g64⟩ g0;have l6:lo g<6:=l6;have lb:aW g (lo g)=true:=lb;have lh:dH g=(lo g:Int)::(dH g).tail:=lh;have ole:=p0 g64 l6 lb;dsimp only[bC];refine cI (σ':=[some (.ref ls),some (.ref lp),some (.int (g:Int)),o3,o4,o5,o6,o7]) rfl ?_;have bit:∀i:Nat,qBm ((g:Int)/2^(i:Int).toNat) 1=((g/2^i%2:Nat):Int):=fun i=>by rw[qBv,zK]
  refine⟨_,rfl,by decide,by decide,?_⟩;refine lN (n:=6) (fun i=>(hb g i).map V.int) #[1] (fun j H2 kk kk0 s2 hj g1 g2'=>?_) fun D H2 hD s2 hd=>?_
  .rw[qEh];refine⟨_,rfl,_,rfl,_,_,rfl,rfl,(by show 0<=(j:Int);lia),_,_,rfl,rfl,rfl,_,rfl,cU (fun h3=>?_) (fun h3=>?_)⟩
   .have z:=V.int.inj (of_decide_eq_true h3);rw[bit] at z;exact⟨_,rfl,g1 _ (by unfold hb;rw[if_pos (by lia)];rfl) _ (.refl _)⟩
   .have hno:¬g/2^j%2=1:=fun z=>h3 (by
     show decide (V.int (qBm ((g:Int)/2^(j:Int).toNat) 1)=V.int 1)=true;rw[bit,z];rfl)
    exact g2' (by unfold hb;rw[if_neg hno];rfl) _ (.refl _)
  have hd2:H2 D=some (.lst ((dH g).map V.int)):=by
   rw[hd,<- qGs,xM ⟨g,g64⟩]
  clear hd
  have at0:fM ((dH g).map V.int) 0=some (.int (lo g:Int)):=by
   rw[lh];exact fZ (rs:=(lo g:Int)::(dH g).tail) (j:=0) (by simp)
  exists D,_,0,_,rfl,rfl,aV.of hd2,at0;dsimp only[bC];refine cI (σ':=[some (.ref ls),some (.ref lp),some (.int (g:Int)),some (.int (lo g:Int)),o4,o5,o6,o7]) rfl ?_;have s12:=s1.trans s2;have e1:(g:Int)-1*2^(lo g:Int).toNat=((g-2^lo g:Nat):Int):=by rw[qBv,qIn,qGk ole];push_cast;rfl
  refine⟨_,rfl,_,rfl,_,rfl,_,_,rfl,rfl,⟨by lia,by lia,by decide⟩,_,_,rfl,rfl,ls,ss,_,_,rfl,rfl,s12.seq hls,(by rw[e1];exact at_ _ (qBi (qFm _ _) g2)),mH,fun lw hlw=>?_⟩;dsimp only[bC];have u3:=aJ.aI (o:=.lst [V.int (bI ps (g-2^lo g)).1]) hlw;have e3:upd H2 lw (.lst [V.int (bI ps (g-2^lo g)).1]) lw=some (.lst (((bI ps (g-2^lo g)).1::([]:List P3).filterMap (lW (bI ps) g)).map V.int)):=aC;generalize upd H2 lw (.lst [V.int (bI ps (g-2^lo g)).1])=H3 at u3 e3|-;have s13:=s12.trans u3;have flw:H lw=none:=s12.free hlw;have hlp3:=s13 _ _ hlp;refine cI (σ':=[some (.ref ls),some (.ref lp),some (.int (g:Int)),some (.int (lo g:Int)),some (.ref lw),o5,o6,o7]) rfl ?_;exists _,rfl,lp,rfl,⟨_,aV.of hlp3⟩;have nlw:lp≠lw:=fun z=>by rw[z,flw] at hlp;cases hlp
  refine fR (xs:=bs.map V.ref) (fun i σ' H'=>aJ H H'/\H' lw=some (.lst (((bI ps (g-2^lo g)).1::(ps.take i).filterMap (lW (bI ps) g)).map V.int))/\∃o5 o6 o7:Option V,σ'=[some (.ref ls),some (.ref lp),some (.int (g:Int)),some (.int (lo g:Int)),some (.ref lw),o5,o6,o7]) ⟨s13,e3,_,_,_,rfl⟩ (fun i σ' H' _ hp=>aV.of (hp.1 _ _ hlp)) ?_ ?_
  .rintro j x σ' H4 hx ⟨s4,e4,o5,o6,o7,rfl⟩;rw[qAf] at hx;cases e:bs[j]? with
   | none=>rw[e] at hx;cases hx
   | some b =>
    rw[e] at hx;cases hx;obtain⟨q,hq,r'⟩:=a2.BR j b e;have tk:ps.take (j+1)=ps.take j++[q]:=by rw[qGb,hq];rfl
    obtain⟨q1,q2⟩:=pw6.1 q (qAq hq);exists b,_,rfl,cQ.of (s4 _ _ r'),rfl,_,_,rfl,_,_,rfl,_,_,rfl,rfl;refine cI (σ':=[some (.ref ls),some (.ref lp),some (.int (g:Int)),some (.int (lo g:Int)),some (.ref lw),some (.int (q.1:Int)),some (.int (q.2.1:Int)),some (.int q.2.2)]) rfl ?_;have skip:lW (bI ps) g q=none->(aJ H H4/\H4 lw=some (.lst (((bI ps (g-2^lo g)).1::(ps.take (j+1)).filterMap (lW (bI ps) g)).map V.int))/\∃o5 o6 o7:Option V,[some (V.ref ls),some (.ref lp),some (.int (g:Int)),some (.int (lo g:Int)),some (.ref lw),some (.int (q.1:Int)),some (.int (q.2.1:Int)),some (.int q.2.2)]=[some (V.ref ls),some (.ref lp),some (.int (g:Int)),some (.int (lo g:Int)),some (.ref lw),o5,o6,o7]):=fun hs=>by
     refine⟨s4,?_,_,_,_,rfl⟩;rw[tk,qBy,qCf,hs,qMg,qCl];exact e4
    refine⟨_,rfl,_,rfl,rfl,_,rfl,cU (fun h1=>?_) (fun h1=>bK (skip ?_))⟩
    .have f1:q.1=lo g:=by have:=V.int.inj (of_decide_eq_true h1);lia
     refine⟨_,rfl,_,rfl,_,_,rfl,rfl,(by show 0<=(q.2.1:Int);lia),_,_,rfl,rfl,rfl,_,rfl,cU (fun h3=>?_) (fun h3=>skip ?_)⟩
     .have f2:g/2^q.2.1%2=1:=by
       have z:=V.int.inj (of_decide_eq_true h3);rw[bit] at z;lia
      have fb:both g q.1 q.2.1=true:=by
       unfold both;unfold aW at lb;rw[f1,lb,decide_eq_true f2];rfl
      have f2':aW g q.2.1=true:=decide_eq_true f2;have o1:2^q.1<=g:=by rw[f1];exact ole
      have o2:2^q.2.1<=g-2^q.1:=by
       have zb:aW (g-2^q.1) q.2.1=true:=by
        rw[f1,zH g64 l6 q2 lb,f2',decide_eq_true (by lia)];rfl
       exact p0 (qBi (qFm _ _) g64) q2 zb
      have hs:lW (bI ps) g q=some (q.2.2+(bI ps (g-2^q.1-2^q.2.1)).1):=if_pos ⟨f1,fb⟩;have e5:(g:Int)-1*2^(q.1:Int).toNat-1*2^(q.2.1:Int).toNat=((g-2^q.1-2^q.2.1:Nat):Int):=by
       rw[qBv,qBv,qIn,qIn,qGk o2,qGk o1];push_cast;rfl
      refine⟨_,rfl,.inl ⟨rfl,_,aV.of e4⟩,_,rfl,_,rfl,_,rfl,_,_,rfl,rfl,⟨by lia,by lia,by decide⟩,_,_,rfl,rfl,_,rfl,_,_,rfl,rfl,⟨by lia,by lia,by decide⟩,_,_,rfl,rfl,ls,ss,_,_,rfl,rfl,s4.seq hls,(by rw[e5];exact at_ _ (qBi (qAx (qFm _ _) (qFm _ _)) g2)),_,rfl,_,_,rfl,rfl,lw,_,_,rfl,rfl,e4,?_,s4.upd_ne' flw,?_,_,_,_,rfl⟩
      .have l1:=qCy (lW (bI ps) g) (ps.take j);rw[qAa,qAw];rw[qEl] at l1;exact aO (by lia)
      .rw[aC,tk,qBy,qCf,hs,qMg,<- qMr,qBw,Int.add_comm];rfl
     .refine if_neg fun z=>h3 ?_;have f2:g/2^q.2.1%2=1:=by
       have z2:=z.2;unfold both at z2;rw[qAv] at z2;exact of_decide_eq_true z2.2
      show decide (V.int (qBm ((g:Int)/2^(q.2.1:Int).toNat) 1)=V.int 1)=true;rw[bit,f2];rfl
    .refine if_neg fun z=>h1 ?_;show decide (V.int (q.1:Int)=V.int (lo g:Int))=true;rw[z.1];exact decide_eq_true rfl
  .rintro σ' H4 ⟨s4,e4,o5,o6,o7,rfl⟩;rw[qAa,al,qEk] at e4;refine⟨_,rfl,_,rfl,ls,ss,_,_,rfl,rfl,s4.seq hls,at_ g g2,_,rfl,lw,_,rfl,aV.of e4,by simp,fun M h1 h2=>?_⟩;have em:=Gu h1 h2;have eb:(bI ps g).1=M:=by
    rw[nF ps g0];unfold nR;rw[fold_fst];exact em
   rw[eb];refine⟨rfl,_,rfl,Ey ?_⟩;exact⟨s4,_,_,_,_,_,_,rfl⟩
 .rintro σ' H1 ⟨s1,o2,o3,o4,o5,o6,o7,rfl⟩;exact k _ s1
def e0(p:Nat×Nat):Nat:=if p.1=p.2 then 6 else p.1
def oU(qs:List P3):List (List Key×V):=qs.map fun p=>([Sum.inl (p.1:Int),Sum.inl (p.2.1:Int)],V.int p.2.2)
theorem kA(i j:Nat):∀qs:List P3,cM (oU qs) [Sum.inl (i:Int),Sum.inl (j:Int)]=(lX qs i j).map V.int
 | []=>rfl
 | (u,v,n)::r=>by
  have ih:=kA i j r;by_cases e:u=i/\v=j
  .obtain⟨rfl,rfl⟩:=e;have z:lX ((u,v,n)::r) u v=some n:=by
    delta lX;rw[qKu (by simp)];rfl
   rw[z];exact dQ (p:=([Sum.inl (u:Int),Sum.inl (v:Int)],V.int n)) rfl
  .have z:cM (oU ((u,v,n)::r)) [Sum.inl (i:Int),Sum.inl (j:Int)]=cM (oU r) [Sum.inl (i:Int),Sum.inl (j:Int)]:=dR (p:=([Sum.inl (u:Int),Sum.inl (v:Int)],V.int n)) (r:=oU r) (fun q=>e (by
    have q1:=List.cons.inj q;have q2:=List.cons.inj q1.2;have y1:=Sum.inl.inj q1.1;have y2:=Sum.inl.inj q2.1;exact⟨by lia,by lia⟩))
   have z2:lX ((u,v,n)::r) i j=lX r i j:=by
    delta lX;rw[qKv (p:=fun p:P3=>decide (p.1=i/\p.2.1=j)) (by rw[decide_eq_true_iff];exact e)]
   rw[z,z2,ih]
theorem sW:∀ns:List Int,(ns.map V.int).all kH=true
 | []=>rfl
 | _::r=>sW r
theorem qH(r:P3)(ss:List Nat):((e0 (r.1,r.2.1)∈ss↔r.2.1∈ss)↔(ea r∈ss↔eb r∈ss))/\(e0 (r.1,r.2.1)=ea r/\r.2.1=eb r\/e0 (r.1,r.2.1)=eb r/\r.2.1=ea r):=by
 delta e0 ea eb;by_cases e:r.1=r.2.1
 .rw[if_pos e,if_pos e,e];exact⟨⟨fun h=>h.symm,fun h=>h.symm⟩,.inr ⟨rfl,rfl⟩⟩
 .rw[if_neg e,if_neg e];exact⟨Iff.rfl,.inl ⟨rfl,rfl⟩⟩
theorem BV{R:P3->Prop}{ss:List Nat}(cl:∀r,R r->(ea r∈ss↔eb r∈ss)){a b:Nat}(h:Cn R a b)(ha:a∈ss):b∈ss:=by
 induction h with
 | refl=>exact ha
 | fw r _ ih=>exact(cl _ r).mp ih
 | bw r _ ih=>exact(cl _ r).mpr ih
theorem Av:∀{ns:List Int},BZ (.int i) (ns.map V.int)=decide (i∈ns)
 | []=>rfl
 | x::r=>by
  show((x == i)||BZ (.int i) (r.map V.int))=_
  rw[Av,qEz,qDs,beq_iff_eq,decide_eq_true_iff,decide_eq_true_iff,qEe];exact⟨fun h=>h.imp (fun z=>z.symm) id,fun h=>h.imp (fun z=>z.symm) id⟩
theorem zN(e:H a=some (.frz ob (.dT kvs)))(eb:H b=some (.tup (k.map kV))):kR H a (.ref b) (cM kvs k):=.inr ⟨kvs,k,b,.inr ⟨ob,e⟩,rfl,eb,rfl⟩
def kk(a b:Nat):List Key:=[Sum.inl (a:Int),Sum.inl (b:Int)]
theorem Lz(h:kk a b=kk c d):a=c/\b=d:=by
 have q1:=List.cons.inj h;have q2:=List.cons.inj q1.2;have y1:=Sum.inl.inj q1.1;have y2:=Sum.inl.inj q2.1;exact⟨by lia,by lia⟩
theorem iK(h:¬(c=a/\d=b)):cM (putK kvs (kk a b) y) (kk c d)=cM kvs (kk c d):=by
 rw[vQ,if_neg fun e=>h (Lz e)]
theorem put_kk':cM (putK kvs (kk a b) y) (kk a b)=some y:=by
 rw[vQ,if_pos rfl]
theorem mE(kvs:List (List Key×V))(k:List Key)(y:V):(putK kvs k y).length<=kvs.length+1:=by
 delta putK;split
 .rw[qAa];lia
 .rw[qAo];exact qAl _
theorem uM [DecidableEq α]:∀{xs ys:List α},xs.Nodup->(∀x∈xs,x∈ys)->xs.length<=ys.length
 | [],_,_,_=>qBf _
 | x::r,ys,nd,h=>by
  have nd':=List.nodup_cons.mp nd;have hx:=h x qBn;have z:=uM (xs:=r) (ys:=ys.erase x) nd'.2 fun y hy=>(qLm (a:=y) (b:=x) (fun e=>nd'.1 (by rw[<- e];exact hy))).mpr (h y (qAs _ hy));rw[qHd hx] at z;have:=qHn hx;rw[qAw];lia
theorem Ez [DecidableEq α] {xs ys:List α}(nd:xs.Nodup)(h:∀x∈xs,x∈ys)(hl:ys.length<=xs.length):∀y∈ys,y∈xs:=fun y hy=>by
 by_cases e:y∈xs
 .exact e
 .have z:=uM (ys:=ys.erase y) nd fun x hx=>(qLm (a:=x) (b:=y) (fun q=>e (by rw[<- q];exact hx))).mpr (h x hx);rw[qHd hy] at z;have:=qHn hy;lia
structure JI (L:List P3) (G:Nat) (js:List Nat) (kvs:List (List Key×V)) (U:List P3):Prop where
 n6:6∈js
 nd:js.Nodup
 lt:∀j∈js,j<7/\aW G j=true
 ul:U.length+1=js.length
 un:U.Nodup
 us:∀r∈U,r∈L
 ue:∀r∈U,ea r∈js/\eb r∈js
 kl:kvs.length<=js.length*js.length
 wd:∀a∈js,∀b∈js,∃v:Int,cM kvs (kk a b)=some (.int v)/\∀c:Int,0<=c->Cn (fun r=>r∈U/\r.2.2<=c) a b->v<=c
theorem JI.one(h6:aW G 6=true):JI L G [6] (putK [] (kk 6 6) (.int 0)) []:=by
 exists qBn,by decide,?_,rfl,.nil,?_,?_,mE _ _ _
 .intro j hj;rw[qCz] at hj;subst hj;exact⟨by decide,h6⟩
 .intro r hr;cases hr
 .intro r hr;cases hr
 .intro a ha b hb;rw[qCz] at ha hb;subst ha hb;exact⟨0,put_kk',fun c hc _=>hc⟩
theorem leaf{U:List P3}{js:List Nat}{r:P3}{h t:Nat}{c:Int}(ue:∀r∈U,ea r∈js/\eb r∈js)(ht:t∉js)(hh:h∈js)(he:ea r=h/\eb r=t\/ea r=t/\eb r=h){a b:Nat}(ha:a∈js)(cn:Cn (fun x=>x∈r::U/\x.2.2<=c) a b):
  (b∈js/\Cn (fun x=>x∈U/\x.2.2<=c) a b)\/(b=t/\Cn (fun x=>x∈U/\x.2.2<=c) a h/\r.2.2<=c):=by
 induction cn with
 | refl=>exact .inl ⟨ha,.refl _⟩
 | @fw x hx _ ih =>
  rcases List.mem_cons.mp hx.1 with e | e
  .subst e;rcases he with ⟨e1,e2⟩ | ⟨e1,e2⟩
   .rw[e2];rw[e1] at ih;rcases ih with ⟨_,ih⟩ | ⟨ih,_⟩
    .exact .inr ⟨rfl,ih,hx.2⟩
    .exact absurd (ih▸hh) ht
   .rw[e2];rw[e1] at ih;rcases ih with ⟨ih,_⟩ | ⟨_,ih,_⟩
    .exact absurd ih ht
    .exact .inl ⟨hh,ih⟩
  .obtain⟨u1,u2⟩:=ue x e;rcases ih with ⟨_,ih⟩ | ⟨ih,_⟩
   .exact .inl ⟨u2,.fw (R:=fun x=>x∈U/\x.2.2<=c) ⟨e,hx.2⟩ ih⟩
   .exact absurd (ih▸u1) ht
 | @bw x hx _ ih =>
  rcases List.mem_cons.mp hx.1 with e | e
  .subst e;rcases he with ⟨e1,e2⟩ | ⟨e1,e2⟩
   .rw[e1];rw[e2] at ih;rcases ih with ⟨ih,_⟩ | ⟨_,ih,_⟩
    .exact absurd ih ht
    .exact .inl ⟨hh,ih⟩
   .rw[e1];rw[e2] at ih;rcases ih with ⟨_,ih⟩ | ⟨ih,_⟩
    .exact .inr ⟨rfl,ih,hx.2⟩
    .exact absurd (ih▸hh) ht
  .obtain⟨u1,u2⟩:=ue x e;rcases ih with ⟨_,ih⟩ | ⟨ih,_⟩
   .exact .inl ⟨u1,.bw (R:=fun x=>x∈U/\x.2.2<=c) ⟨e,hx.2⟩ ih⟩
   .exact absurd (ih▸u2) ht
theorem JI.add{L:List P3}{G:Nat}{js:List Nat}{kvs kvs':List (List Key×V)}{U:List P3}{r:P3}{h t:Nat}(J:JI L G js kvs U)(hr:r∈L)(hh:h∈js)(ht:t∉js)(he:ea r=h/\eb r=t\/ea r=t/\eb r=h)(t7:t<7)(tG:aW G t=true)
  (k1:∀a∈js,∀b∈js,cM kvs' (kk a b)=cM kvs (kk a b)) (k2:∀e∈js,∃v:Int,cM kvs (kk e h)=some (.int v)/\cM kvs' (kk e t)=some (.int (if r.2.2>v then r.2.2 else v))/\cM kvs' (kk t e)=some (.int (if r.2.2>v then r.2.2 else v)))
  (k3:cM kvs' (kk t t)=some (.int 0)) (k4:kvs'.length<=kvs.length+2*js.length+1):JI L G (js++[t]) kvs' (r::U):=by
 have tin:t∈js++[t]:=qAt _ qBn;have jin:∀{x:Nat},x∈js->x∈js++[t]:=fun q=>qEb _ q;have out:∀{x:Nat},x∈js++[t]->x∈js\/x=t:=fun q=>by
  rcases List.mem_append.mp q with q | q
  .exact .inl q
  .exact .inr (List.mem_singleton.mp q)
 exists jin J.n6,?_,?_,?_,?_,?_,?_,?_
 .rw[qIy];refine⟨J.nd,by simp,fun a ha b hb e=>ht ?_⟩;rw[qCz] at hb;rw[<- hb,<- e];exact ha
 .intro j hj;rcases out hj with q | q
  .exact J.lt j q
  .rw[q];exact⟨t7,tG⟩
 .rw[qAo,qAw,J.ul];rfl
 .refine List.nodup_cons.mpr ⟨fun q=>ht ?_,J.un⟩;obtain⟨u1,u2⟩:=J.ue r q;rcases he with ⟨e1,e2⟩ | ⟨e1,e2⟩
  .rw[<- e2];exact u2
  .rw[<- e1];exact u1
 .intro x hx;rcases List.mem_cons.mp hx with q | q
  .rw[q];exact hr
  .exact J.us x q
 .intro x hx;rcases List.mem_cons.mp hx with q | q
  .rw[q];rcases he with ⟨e1,e2⟩ | ⟨e1,e2⟩
   .rw[e1,e2];exact⟨jin hh,tin⟩
   .rw[e1,e2];exact⟨tin,jin hh⟩
  .exact⟨jin (J.ue x q).1,jin (J.ue x q).2⟩
 .have z:=J.kl;rw[qAo];show _<=(js.length+1)*(js.length+1);rw[qMb,Nat.mul_add];lia
 .have two:∀e∈js,∃v:Int,cM kvs' (kk e t)=some (.int v)/\cM kvs' (kk t e)=some (.int v)/\∀c:Int,0<=c->Cn (fun x=>x∈r::U/\x.2.2<=c) e t->v<=c:=fun e he'=>by
   obtain⟨v,w1,w2,w3⟩:=k2 e he';obtain⟨v',x1,x2⟩:=J.wd e he' h hh;rw[w1] at x1;obtain rfl:v=v':=V.int.inj (Option.some.inj x1);refine⟨_,w2,w3,fun c hc cn=>?_⟩;rcases leaf J.ue ht hh he he' cn with ⟨q,_⟩ | ⟨_,q1,q2⟩
   .exact absurd q ht
   .have:=x2 c hc q1;split <;> lia
  intro a ha b hb;rcases out ha with qa | qa <;> rcases out hb with qb | qb
  .obtain⟨v,x1,x2⟩:=J.wd a qa b qb;refine⟨v,by rw[k1 a qa b qb];exact x1,fun c hc cn=>?_⟩;rcases leaf J.ue ht hh he qa cn with ⟨_,q⟩ | ⟨q,_⟩
   .exact x2 c hc q
   .exact absurd (q▸qb) ht
  .obtain⟨v,x1,x2,x3⟩:=two a qa;rw[qb];exact⟨v,x1,x3⟩
  .obtain⟨v,x1,x2,x3⟩:=two b qb;rw[qa];exact⟨v,x2,fun c hc cn=>x3 c hc cn.symm⟩
  .rw[qa,qb];exact⟨0,k3,fun c hc _=>hc⟩
theorem JI.done{rs L:List P3}{g:Nat}{js:List Nat}{kvs:List (List Key×V)}{U:List P3}(ok:∀r∈rs,dU r)(c0:∀r∈rs,0<=r.2.2)(hg:g<64)(run:Run rs (g+64) 64 L)(J:JI L (g+64) js kvs U)(hd:L.length+1<=js.length\/∀r∈L,(ea r∈js↔eb r∈js)):
  ∀r∈rs,uS (g+64) r=true->∃v:Int,cM kvs [Sum.inl (e0 (r.1,r.2.1):Int),Sum.inl (r.2.1:Int)]=some (.int v)/\v<=r.2.2:=by
 obtain⟨n1,n2,n3,n4,n5⟩:=gK ok hg run;have cd:((qAh 7).filter (aW (g+64))).length=L.length+1:=by rw[n3];exact p5 ⟨g,hg⟩
 have hl:L.length+1<=js.length:=by
  rcases hd with hd | hd
  .exact hd
  .rw[<- cd];refine uM (List.nodup_range.filter _) fun x hx=>?_;rw[qMx,qNc] at hx;exact BV (R:=fun r=>r∈L) hd (n4 x hx.1 hx.2) J.n6
 have UL:∀r∈L,r∈U:=Ez J.un J.us (by have:=J.ul;lia);have all:∀x,x<7->aW (g+64) x=true->x∈js:=fun x h7 hb=>by
  refine Ez (ys:=(qAh 7).filter (aW (g+64))) J.nd (fun y hy=>?_) (by lia) x (List.mem_filter.mpr ⟨List.mem_range.mpr h7,hb⟩);exact List.mem_filter.mpr ⟨List.mem_range.mpr (J.lt y hy).1,(J.lt y hy).2⟩
 intro r hr hi;have cn:Cn (fun x=>x∈U/\x.2.2<=r.2.2) (ea r) (eb r):=(n5 r hr hi).mono fun x hx=>⟨UL x hx.1,hx.2⟩;have hr7:=(ok r hr).lt;delta uS at hi;rw[qAv] at hi;have a1:=all _ (by lia) hi.1;have a2:=all _ hr7.2.1 hi.2;rcases(qH r []).2 with ⟨q1,q2⟩ | ⟨q1,q2⟩
 .obtain⟨v,x1,x2⟩:=J.wd _ a1 _ a2;rw[q1,q2];exact⟨v,x1,x2 _ (c0 r hr) cn⟩
 .obtain⟨v,x1,x2⟩:=J.wd _ a2 _ a1;rw[q1,q2];exact⟨v,x1,x2 _ (c0 r hr) cn.symm⟩
theorem A2.zO(h:A2 R as xs):∀(i:Nat) (a:Addr),as[i]?=some a->∃x,xs[i]?=some x/\R a x:=by
 induction h with
 | nil=>intro i a e;cases e
 | cons r _ ih =>
  intro i a e;cases i with
  | zero=>cases e;exact⟨_,rfl,r⟩
  | succ i=>exact ih i a e
def jl(js:List Nat):List V:=(js.map fun j:Nat=>(j:Int)).map V.int
theorem Aw{x:Nat}{js:List Nat}:BZ (.int (x:Int)) (jl js)=decide (x∈js):=by
 delta jl;rw[Av];refine decide_eq_decide.mpr ⟨fun h=>?_,fun h=>List.mem_map.mpr ⟨x,h,rfl⟩⟩;obtain⟨y,hy,e⟩:=List.mem_map.mp h;have:y=x:=by lia
 exact this▸hy
theorem Pq{js:List Nat}{i:Nat}{x:V}(h:(jl js)[i]?=some x):∃e:Nat,js[i]?=some e/\x = .int (e:Int):=by
 delta jl at h;rw[qAf,qAf] at h;cases e:js[i]? with
 | none=>rw[e] at h;cases h
 | some y=>rw[e] at h;exact⟨y,rfl,(Option.some.inj h).symm⟩
theorem EA(js:List Nat):(jl js).length=js.length:=by delta jl;rw[qAa,qAa]
theorem oV(js:List Nat):(jl js).all kH=true:=sW _
theorem HI(p:Nat×Nat):fM [V.int (p.1:Int),V.int 6] (if decide (V.int (p.1:Int)=V.int (p.2:Int))=true then (1:Int) else 0)=some (.int (e0 p:Int)):=by
 delta e0;by_cases h:p.1=p.2
 .rw[if_pos h,h,decide_eq_true rfl];rfl
 .rw[if_neg h,decide_eq_false fun e=>h (by have:=V.int.inj e;lia)];rfl
def HJ(K:qAb):Sp:=fun vs H Q _=>∃(lf d:Addr) (ob:Obj) (ds:List Addr) (iX:List (Nat×Nat)) (qs rs L:List P3) (g:Nat),vs=[.ref lf,.ref d]/\H lf=some (.lst (ds.map V.ref))/\A2 (uR H) ds iX/\H d=some (.frz ob (.dT (oU qs)))/\(qs.map fun r=>(r.1,r.2.1)).Nodup/\(∀r,r∈qs↔r∈rs)/\(∀r∈rs,dU r)/\(∀r∈rs,0<=r.2.2)/\g<64/\iX.Perm (qJ L)/\Run rs (g+64) 64 L/\∀(l:Addr) (kvs:List (List Key×V)) H',aJ H H'->H' l=some (.dT kvs)->(∀r∈rs,uS (g+64) r=true->∃v:Int,cM kvs [Sum.inl (e0 (r.1,r.2.1):Int),Sum.inl (r.2.1:Int)]=some (.int v)/\v<=r.2.2)->Q (.ref l) H'
theorem kL:aN ["_law_found","_law_ropes","_law_worst","_law_joined_here","_law_turn","_law_one","_law_other","_law_here","_law_there","_law_end"] ["_law_found","_law_ropes"] (aH JG):=#[1,2]
theorem LA(t:Tx K mg "_law_joined" JG ["_law_found","_law_ropes"] f fd)(T:#[4]):#[5] 1 "_law_joined" ["_law_found","_law_ropes"] (HJ K) f fd:=by
 refine t.jI kL (by rintro _ _ _ _⟨lf,d,ob,ds,iX,qs,rs,L,g,rfl,_⟩;rfl) fun _ _ _ _ H vs Q E hr h=>?_;obtain⟨lf,d,ob,ds,iX,qs,rs,L,g,rfl,hlf,ha,hd,nq,mem,ok,c0,hg,pm,run,k⟩:=h;refine⟨_,(aD (bB (i:=2) kL.nd rfl cC (Bs (gZ hr) (cJ (aA aE (aA aE aB))) aE))
  (aD (bB (i:=3) kL.nd rfl cC (bO (aA aE aB)))
  (aD (dJ #[9] rfl (c8 #[0] T.cO (aA (aM aU #[0] T.cG bV (aA (pv 0) aB)) aB)) (aK (i:=4) kL.nd rfl cC)
   (aG (dJ #[9] rfl (bM (pv 0)) (eL rfl (bA (aK (i:=5) kL.nd rfl cC) (bA (aK (i:=6) kL.nd rfl cC) dC)))
    (aD (bB (i:=7) kL.nd rfl cC (aX bF (bO (aA (pv 5) (aA aE aB))) (bW gE #[0] T.hW iD (aA (dD bU (pv 5) (pv 6) (aT _)) aB)) #[6]))
    (aD (bB (i:=8) kL.nd rfl cC (pv 6))
    (aD (bN (PW.pt (pw_and (aP rS (pv 8) (pv 3) #[0]) (pw_and1 (aP jA (pv 7) (pv 3) #[0])))) (aG (Ic (i:=7) (j:=8) rfl kL.nd rfl rfl #[1] rfl rfl (aA (pv 8) (aA (pv 7) aB)) #[0])) aZ)
    (aG (bN (PW.pt (pw_and (aP rS (pv 7) (pv 3) #[0]) (pw_and1 (aP jA (pv 8) (pv 3) #[0])))) (aD (dJ #[9] rfl (bM (pv 3)) (aK (i:=9) kL.nd rfl cC)
      (aD (j5 (gZ hr) (pv 2) (cJ (aA (pv 9) (aA (pv 8) aB))) (aM (mO rfl) #[0] T.nQ tS (aA (j4 (gZ hr) (pv 2) (cJ (aA (pv 9) (aA (pv 7) aB))) #[6]) (aA (j4 (gZ hr) (pv 1) (cJ (aA (pv 5) (aA (pv 6) aB))) #[6]) aB))) rfl)
      (aG (j5 (gZ hr) (pv 2) (cJ (aA (pv 8) (aA (pv 9) aB))) (j4 (gZ hr) (pv 2) (cJ (aA (pv 9) (aA (pv 8) aB))) #[6]) rfl))))
     (aD (bQ (eD qCp qCk qCj dN (pv 3) (aA (pv 8) aB)))
     (aG (j5 (gZ hr) (pv 2) (cJ (aA (pv 8) (aA (pv 8) aB))) aE rfl)))) aZ))))))))
  (aG (aS (pv 2)))))),?_⟩
 obtain⟨n1,n2,n3,n4,n5⟩:=gK ok hg run;have h6:aW (g+64) 6=true:=by
  have z:=p7 ⟨g,hg⟩ ⟨6,by decide⟩;have z:aW (g+64) 6=(aW g 6||decide (6=6)):=z
  rw[z,decide_eq_true rfl,qJg]
 have dl:ds.length=L.length:=by
  rw[ha.len,pm.length_eq];unfold qJ;rw[qAa]
 have l6:L.length<=6:=by rw[n3];exact Er ⟨g,hg⟩
 have hel:((ds.map V.ref).length:Int)=(ds.length:Int):=by rw[qAa]
 refine fun lw hlw=>⟨kY,fun b0 hb0=>⟨?_,b0,kk 6 6,rfl,aC,?_⟩⟩
 .have z:=(aJ.aI (o:=.tup [V.int 6,V.int 6]) hb0) lw (.dT []) aC;exact z
 have u1:aJ H (upd (upd (upd H lw (.dT [])) b0 (.tup [V.int 6,V.int 6])) lw (.dT (putK [] (kk 6 6) (.int 0)))):=((aJ.aI hlw).trans (.aI hb0)).upd_ne' hlw;have e1:upd (upd (upd H lw (.dT [])) b0 (.tup [V.int 6,V.int 6])) lw (.dT (putK [] (kk 6 6) (.int 0))) lw=some (.dT (putK [] (kk 6 6) (.int 0))):=aC;generalize upd (upd (upd H lw (.dT [])) b0 (.tup [V.int 6,V.int 6])) lw (.dT (putK [] (kk 6 6) (.int 0)))=H1 at u1 e1|-;dsimp only[bC];refine⟨mH,fun lj hlj=>?_⟩;have u2:=aJ.aI (o:=.lst [V.int 6]) hlj;have e2:upd H1 lj (.lst [V.int 6]) lj=some (.lst (jl [6])):=aC;generalize upd H1 lj (.lst [V.int 6])=H2 at u2 e2|-;have flj:H lj=none:=u1.free hlj;have s2:=u1.trans u2;have e1':=u2 _ _ e1;dsimp only[bC];refine⟨_,rfl,lf,_,rfl,.inl (aV.of (s2 _ _ hlf)),(ds.length:Int),(by show [V.int ((ds.map V.ref).length:Int)]=_;rw[hel]),by lia,by lia,?_⟩;refine eC (n:=ds.length) (fun i σ' H'=>aJ H H'/\∃(js:List Nat) (kvs:List (List Key×V)) (U:List P3) (o4 o5 o6 o7 o8 o9:Option V),JI L (g+64) js kvs U/\H' lw=some (.dT kvs)/\H' lj=some (.lst (jl js))/\(i+1<=js.length\/∀r∈L,(ea r∈js↔eb r∈js))/\σ'=[some (.ref lf),some (.ref d),some (.ref lw),some (.ref lj),o4,o5,o6,o7,o8,o9]) ⟨s2,[6],_,[],_,_,_,_,_,_,JI.one h6,e1',e2,.inl #[1],rfl⟩ ?_ ?_
 .rintro i σ' H3 hi ⟨s3,js,kvs,U,o4,o5,o6,o7,o8,o9,J,ew,ej,cl,rfl⟩;dsimp only[bC];refine cI (σ':=[some (.ref lf),some (.ref d),some (.ref lw),some (.ref lj),some (.int (0+(i:Int))),o5,o6,o7,o8,o9]) rfl ?_;exists _,rfl,lf,rfl,⟨_,aV.of (s3 _ _ hlf)⟩;refine fR (xs:=ds.map V.ref) (fun j σ' H'=>aJ H H'/\∃(js:List Nat) (kvs:List (List Key×V)) (U:List P3) (o5 o6 o7 o8 o9:Option V),JI L (g+64) js kvs U/\H' lw=some (.dT kvs)/\H' lj=some (.lst (jl js))/\(i+1<=js.length\/∀r∈L,(ea r∈js↔eb r∈js))/\(i+2<=js.length\/∀p∈iX.take j,(e0 p∈js↔p.2∈js))/\σ'=[some (.ref lf),some (.ref d),some (.ref lw),some (.ref lj),some (.int (0+(i:Int))),o5,o6,o7,o8,o9]) ⟨s3,js,kvs,U,_,_,_,_,_,J,ew,ej,cl,.inr (fun p hp=>by cases hp),rfl⟩ (fun j σ' H' _ hp=>aV.of (hp.1 _ _ hlf)) ?_ ?_
  .clear J ew ej cl
   rintro j x σ' H4 hx ⟨s4,js,kvs,U,o5,o6,o7,o8,o9,J,ew,ej,cl,c2,rfl⟩;rw[qAf] at hx;cases e:ds[j]? with
   | none=>rw[e] at hx;cases hx
   | some b =>
    rw[e] at hx;cases hx;obtain⟨p,hp,hb⟩:=ha.zO j b e;have tk:iX.take (j+1)=iX.take j++[p]:=by rw[qGb,hp];rfl
    obtain⟨r,hrL,hrp⟩:=List.mem_map.mp (pm.mem_iff.mp (qAq hp));have hrr:=n1 r hrL;have hb4:=s4 _ _ hb;exists b,_,rfl,cQ.of hb4,rfl,_,_,rfl,_,_,rfl,rfl;refine cI (σ':=[some (.ref lf),some (.ref d),some (.ref lw),some (.ref lj),some (.int (0+(i:Int))),some (.int (p.1:Int)),some (.int (p.2:Int)),o7,o8,o9]) rfl ?_;have hz0:∀lz,H4 lz=none->aJ H4 (upd H4 lz (.lst [V.int (p.1:Int),V.int 6])):=fun lz hlz=>aJ.aI hlz;refine⟨_,rfl,kY,fun lz hlz=>⟨_,rfl,_,rfl,rfl,.inr ⟨_,rfl,lz,_,_,_,rfl,rfl,aV.of aC,HI p,?_⟩⟩⟩;have u5:=hz0 lz hlz;clear hz0;generalize upd H4 lz (.lst [V.int (p.1:Int),V.int 6])=H5 at u5|-;have s5:=s4.trans u5;have ew5:=u5 _ _ ew;have ej5:=u5 _ _ ej;have j7:js.length<=7:=by
     have z:=uM (ys:=qAh 7) J.nd fun y hy=>List.mem_range.mpr (J.lt y hy).1;rw[qBg] at z;exact z
    have sqj:aV K H5 lj (jl js):=aV.of ej5;have kM:(e0 p∈js↔p.2∈js)->∀o7 o8:Option V,(aJ H H5/\∃(js:List Nat) (kvs:List (List Key×V)) (U:List P3) (o5 o6 o7' o8' o9':Option V),JI L (g+64) js kvs U/\H5 lw=some (.dT kvs)/\H5 lj=some (.lst (jl js))/\(i+1<=js.length\/∀r∈L,(ea r∈js↔eb r∈js))/\(i+2<=js.length\/∀p∈iX.take (j+1),(e0 p∈js↔p.2∈js))/\[some (V.ref lf),some (.ref d),some (.ref lw),some (.ref lj),some (.int (0+(i:Int))),some (.int (p.1:Int)),some (.int (p.2:Int)),o7,o8,o9]=[some (.ref lf),some (.ref d),some (.ref lw),some (.ref lj),some (.int (0+(i:Int))),o5,o6,o7',o8',o9']):=fun hno o7 o8=>by
     refine⟨s5,js,kvs,U,_,_,_,_,_,J,ew5,ej5,cl,?_,rfl⟩;rcases c2 with c2 | c2
     .exact .inl c2
     .refine .inr fun q hq=>?_;rw[tk] at hq;rcases List.mem_append.mp hq with z | z
      .exact c2 q z
      .rw[qCz] at z;rw[z];exact hno
    dsimp only[bC];exists _,rfl;dsimp only[bC];refine nG (fun σ2 H6=>H6=H5/\∃hh tt:Nat,(hh=e0 p/\tt=p.2\/hh=p.2/\tt=e0 p)/\((e0 p∈js↔p.2∈js)\/(hh∈js/\tt∉js))/\σ2=[some (.ref lf),some (.ref d),some (.ref lw),some (.ref lj),some (.int (0+(i:Int))),some (.int (p.1:Int)),some (.int (p.2:Int)),some (.int (hh:Int)),some (.int (tt:Int)),o9]) (fun tail=>?_) ?_
    .refine cI (σ':=[some (.ref lf),some (.ref d),some (.ref lw),some (.ref lj),some (.int (0+(i:Int))),some (.int (p.1:Int)),some (.int (p.2:Int)),some (.int (e0 p:Int)),some (.int (p.2:Int)),o9]) rfl ?_;exists _,rfl,_,rfl,lj,_,rfl,.inl sqj,rfl,oV _,_,rfl;show if BZ (V.int (p.2:Int)) (jl js)=true then _ else _;rw[Aw];refine cU (fun h1=>?_) (fun h1=>bK (tail _ _ ⟨rfl,_,_,.inl ⟨rfl,rfl⟩,?_,rfl⟩))
     .have h1:=of_decide_eq_true h1;exists _,rfl,_,rfl,lj,_,rfl,.inl sqj,rfl,oV _,_,rfl;show if (!BZ (V.int (e0 p:Int)) (jl js))=true then _ else _;rw[Aw];by_cases h2:e0 p∈js
      .rw[decide_eq_true h2];exact bK (tail _ _ ⟨rfl,_,_,.inl ⟨rfl,rfl⟩,.inl ⟨fun _=>h1,fun _=>h2⟩,rfl⟩)
      .rw[decide_eq_false h2];exact dG ⟨_,rfl,_,rfl,_,_,rfl,tail _ _ ⟨rfl,_,_,.inr ⟨rfl,rfl⟩,.inr ⟨h1,h2⟩,rfl⟩⟩
     .have h1:¬p.2∈js:=fun z=>h1 (decide_eq_true z);by_cases h2:e0 p∈js
      .exact .inr ⟨h2,h1⟩
      .exact .inl ⟨fun z=>absurd z h2,fun z=>absurd z h1⟩
    rintro σ2 H6 ⟨rfl,hh,tt,hht,hcr,rfl⟩;exists _,rfl,_,rfl,lj,_,rfl,.inl sqj,rfl,oV _,_,rfl;show if BZ (V.int (hh:Int)) (jl js)=true then _ else _;rw[Aw];refine cU (fun h1=>?_) (fun h1=>bK (kM ?_ _ _))
    .have h1:=of_decide_eq_true h1;exists _,rfl,_,rfl,lj,_,rfl,.inl sqj,rfl,oV _,_,rfl;show if (!BZ (V.int (tt:Int)) (jl js))=true then _ else _;rw[Aw];by_cases h2:tt∈js
     .rw[decide_eq_true h2];refine bK (kM ?_ _ _);rcases hcr with z | z
      .exact z
      .exact absurd h2 z.2
     rw[decide_eq_false h2];refine dG ?_;obtain rfl:(r.1,r.2.1)=p:=hrp;have he:ea r=hh/\eb r=tt\/ea r=tt/\eb r=hh:=by
      rcases(qH r []).2 with ⟨z1,z2⟩ | ⟨z1,z2⟩ <;> rcases hht with ⟨y1,y2⟩ | ⟨y1,y2⟩
      .exact .inl ⟨by rw[y1,z1],by rw[y2];exact z2.symm⟩
      .exact .inr ⟨by rw[y2,z1],by rw[y1];exact z2.symm⟩
      .exact .inr ⟨by rw[y2];exact z2.symm,by rw[y1,z1]⟩
      .exact .inl ⟨by rw[y1];exact z2.symm,by rw[y2,z1]⟩
     have hr7:=(ok r hrr.1).lt;have hig:=hrr.2;unfold uS at hig;rw[qAv] at hig;have tG:tt<7/\aW (g+64) tt=true:=by
      rcases he with ⟨z1,z2⟩ | ⟨z1,z2⟩
      .rw[<- z2];exact⟨hr7.2.1,hig.2⟩
      .rw[<- z1];exact⟨by lia,hig.1⟩
     have ncl:¬∀r∈L,(ea r∈js↔eb r∈js):=fun z=>by
      have z:=z r hrL;rcases he with ⟨z1,z2⟩ | ⟨z1,z2⟩
      .rw[z1,z2] at z;exact h2 (z.mp h1)
      .rw[z1,z2] at z;exact h2 (z.mpr h1)
     have ln:i+1<=js.length:=cl.resolve_right ncl;have hcost:cM (oU qs) (kk r.1 r.2.1)=some (.int r.2.2):=by
      have z:=kA r.1 r.2.1 qs;rw[lY nq (n:=r.2.2) ((mem _).mpr hrr.1)] at z;exact z
     have nwj:lw≠lj:=fun z=>by rw[z,ej5] at ew5;cases ew5
     have fr:∀{G:Hp}{xs:List V},G lj=some (.lst xs)->∀o,upd G lw o lj=some (.lst xs):=fun e o=>by rw[aQ (fun z=>nwj z.symm)];exact e
     have ht5:=tG;exists _,rfl,lj,rfl,⟨_,sqj⟩;refine fR (xs:=jl js) (fun n σ' H'=>aJ H H'/\H' lj=some (.lst (jl js))/\∃(kvs':List (List Key×V)) (o9:Option V),H' lw=some (.dT kvs')/\(∀a∈js,∀b∈js,cM kvs' (kk a b)=cM kvs (kk a b))/\(∀e∈js.take n,∃v:Int,cM kvs (kk e hh)=some (.int v)/\cM kvs' (kk e tt)=some (.int (if r.2.2>v then r.2.2 else v))/\cM kvs' (kk tt e)=some (.int (if r.2.2>v then r.2.2 else v)))/\kvs'.length<=kvs.length+2*n/\σ'=[some (.ref lf),some (.ref d),some (.ref lw),some (.ref lj),some (.int (0+(i:Int))),some (.int (r.1:Int)),some (.int (r.2.1:Int)),some (.int (hh:Int)),some (.int (tt:Int)),o9]) ⟨s5,ej5,kvs,_,ew5,(fun _ _ _ _=>rfl),(fun e he=>by cases he),qAl _,rfl⟩ (fun n σ' H' _ hp=>aV.of hp.2.1) ?_ ?_
     .rintro n x σ' H7 hx ⟨s7,ej7,kvs',o9,ew7,k1,k2,k4,rfl⟩;obtain⟨e,hje,rfl⟩:=Pq hx;have hej:e∈js:=qAq hje;have nlt:n<js.length:=(List.getElem?_eq_some_iff.mp hje).1;have tkn:js.take (n+1)=js.take n++[e]:=by rw[qGb,hje];rfl
      have het:e≠tt:=fun z=>h2 (z▸hej);obtain⟨v,hv,_⟩:=J.wd e hej hh h1;have hv':cM kvs' (kk e hh)=some (.int v):=by rw[k1 e hej hh h1];exact hv
      have kb:=J.kl;have kb2:js.length*js.length<=49:=qNi j7 j7;dsimp only[bC];refine cI (σ':=[some (.ref lf),some (.ref d),some (.ref lw),some (.ref lj),some (.int (0+(i:Int))),some (.int (r.1:Int)),some (.int (r.2.1:Int)),some (.int (hh:Int)),some (.int (tt:Int)),some (.int (e:Int))]) rfl ?_;refine⟨_,rfl,_,rfl,_,rfl,kY,fun b1 hb1=>?_⟩;have v1:=aJ.aI (o:=.tup [V.int (e:Int),V.int (hh:Int)]) hb1;have y1:upd H7 b1 (.tup [V.int (e:Int),V.int (hh:Int)]) b1=some (.tup ((kk e hh).map kV)):=aC;generalize upd H7 b1 (.tup [V.int (e:Int),V.int (hh:Int)])=H8 at v1 y1|-;have ew8:=v1 _ _ ew7;refine⟨lw,_,rfl,hv'▸kR.t ew8 y1,_,rfl,_,rfl,_,rfl,kY,fun b2 hb2=>?_⟩;have v2:=aJ.aI (o:=.tup [V.int (r.1:Int),V.int (r.2.1:Int)]) hb2;have y2:upd H8 b2 (.tup [V.int (r.1:Int),V.int (r.2.1:Int)]) b2=some (.tup ((kk r.1 r.2.1).map kV)):=aC;generalize upd H8 b2 (.tup [V.int (r.1:Int),V.int (r.2.1:Int)])=H9 at v2 y2|-;have s9:=(s7.trans v1).trans v2;exists d,_,rfl,hcost▸zN (s9 _ _ hd) y2,_,_,rfl;obtain⟨M,hM⟩:∃M:Int,(if r.2.2>v then r.2.2 else v)=M:=⟨_,rfl⟩;rw[hM];refine⟨_,rfl,_,rfl,_,rfl,kY,fun b3 hb3=>?_⟩;have v3:=aJ.aI (o:=.tup [V.int (e:Int),V.int (tt:Int)]) hb3;have y3:upd H9 b3 (.tup [V.int (e:Int),V.int (tt:Int)]) b3=some (.tup ((kk e tt).map kV)):=aC;generalize upd H9 b3 (.tup [V.int (e:Int),V.int (tt:Int)])=Ha at v3 y3|-;have sa:=s9.trans v3;have w3:=(v1.trans v2).trans v3;refine⟨lw,_,rfl,qU.t (k:=kk e tt) (w3 _ _ ew7) y3 (aO (by lia)),?_⟩;have sb:=sa.upd_ne' (o:=.dT (putK kvs' (kk e tt) (.int M))) hlw;have ewb:upd Ha lw (.dT (putK kvs' (kk e tt) (.int M))) lw=some (.dT (putK kvs' (kk e tt) (.int M))):=aC;have ejb:=fr (w3 _ _ ej7) (.dT (putK kvs' (kk e tt) (.int M)));generalize upd Ha lw (.dT (putK kvs' (kk e tt) (.int M)))=Hb at sb ewb ejb|-;refine⟨_,rfl,_,rfl,_,rfl,kY,fun b4 hb4=>?_⟩;have v4:=aJ.aI (o:=.tup [V.int (e:Int),V.int (tt:Int)]) hb4;have y4:upd Hb b4 (.tup [V.int (e:Int),V.int (tt:Int)]) b4=some (.tup ((kk e tt).map kV)):=aC;generalize upd Hb b4 (.tup [V.int (e:Int),V.int (tt:Int)])=Hc at v4 y4|-;refine⟨lw,.int M,rfl,put_kk'▸kR.t (v4 _ _ ewb) y4,_,rfl,_,rfl,_,rfl,kY,fun b5 hb5=>?_⟩;have v5:=aJ.aI (o:=.tup [V.int (tt:Int),V.int (e:Int)]) hb5;have y5:upd Hc b5 (.tup [V.int (tt:Int),V.int (e:Int)]) b5=some (.tup ((kk tt e).map kV)):=aC;generalize upd Hc b5 (.tup [V.int (tt:Int),V.int (e:Int)])=Hd at v5 y5|-;have w5:=v4.trans v5;have pl1:=mE kvs' (kk e tt) (.int M);have pl2:=mE (putK kvs' (kk e tt) (.int M)) (kk tt e) (.int M);refine⟨lw,_,rfl,qU.t (k:=kk tt e) (w5 _ _ ewb) y5 (aO (by lia)),(sb.trans w5).upd_ne' hlw,fr (w5 _ _ ejb) _,_,_,aC,?_,?_,by lia,rfl⟩
      .intro a ha b hb;rw[iK (fun z=>h2 (by rw[<- z.1];exact ha)),iK (fun z=>h2 (by rw[<- z.2];exact hb))];exact k1 a ha b hb
      .intro e' he';rw[tkn] at he';by_cases hee:e'=e
       .subst hee;exists v,hv,?_
        .rw[iK (fun z=>het z.1),put_kk',hM]
        .rw[put_kk',hM]
       .rcases List.mem_append.mp he' with z | z
        .obtain⟨v',x1,x2,x3⟩:=k2 e' z;have hje':e'∈js:=List.mem_of_mem_take z;exists v',x1,?_
         .rw[iK (fun z=>h2 (by rw[<- z.1];exact hje')),iK (fun z=>hee z.1)];exact x2
         .rw[iK (fun z=>hee z.2),iK (fun z=>h2 (by rw[<- z.2];exact hje'))];exact x3
        .exact absurd (List.mem_singleton.mp z) hee
     .rintro σ' H7 ⟨s7,ej7,kvs',o9,ew7,k1,k2,k4,rfl⟩;rw[EA] at k2 k4;rw[qEk] at k2;have kb:=J.kl;have kb2:js.length*js.length<=49:=qNi j7 j7;refine⟨_,rfl,.inl ⟨rfl,_,aV.of ej7⟩,_,rfl,lj,_,_,rfl,rfl,ej7,by rw[EA];exact aO (by lia),?_⟩;have s8:=s7.upd_ne' (o:=.lst (jl js++[V.int (tt:Int)])) flj;have ej8:upd H7 lj (.lst (jl js++[V.int (tt:Int)])) lj=some (.lst (jl (js++[tt]))):=by
       rw[aC];unfold jl;rw[qBw,qBw];rfl
      have ew8:upd H7 lj (.lst (jl js++[V.int (tt:Int)])) lw=some (.dT kvs'):=by rw[aQ nwj];exact ew7
      generalize upd H7 lj (.lst (jl js++[V.int (tt:Int)]))=H8 at s8 ej8 ew8|-;refine⟨_,rfl,_,rfl,_,rfl,kY,fun b6 hb6=>?_⟩;have v6:=aJ.aI (o:=.tup [V.int (tt:Int),V.int (tt:Int)]) hb6;have y6:upd H8 b6 (.tup [V.int (tt:Int),V.int (tt:Int)]) b6=some (.tup ((kk tt tt).map kV)):=aC;generalize upd H8 b6 (.tup [V.int (tt:Int),V.int (tt:Int)])=H9 at v6 y6|-;have pl1:=mE kvs' (kk tt tt) (.int 0);refine⟨lw,_,rfl,qU.t (k:=kk tt tt) (v6 _ _ ew8) y6 (aO (by lia)),(s8.trans v6).upd_ne' hlw,js++[tt],putK kvs' (kk tt tt) (.int 0),r::U,_,_,_,_,_,?_,aC,fr (v6 _ _ ej8) _,.inl ?_,.inl ?_,rfl⟩
      .refine J.add hrL h1 h2 he tG.1 tG.2 (fun a ha b hb=>?_) (fun e he'=>?_) put_kk' (by lia)
       .rw[iK (fun z=>h2 (by rw[<- z.1];exact ha))];exact k1 a ha b hb
       .obtain⟨v',x1,x2,x3⟩:=k2 e he';exists v',x1,?_
        .rw[iK (fun z=>h2 (by rw[<- z.1];exact he'))];exact x2
        .rw[iK (fun z=>h2 (by rw[<- z.2];exact he'))];exact x3
      .rw[qAo];show i+1<=js.length+1;lia
      .rw[qAo];show i+2<=js.length+1;lia
    .rcases hcr with z | z
     .exact z
     .exact absurd (decide_eq_true z.1) h1
  .clear J ew ej cl
   rintro σ' H4 ⟨s4,js,kvs,U,o5,o6,o7,o8,o9,J,ew,ej,cl,c2,rfl⟩;refine⟨s4,js,kvs,U,_,_,_,_,_,_,J,ew,ej,?_,rfl⟩;rcases c2 with c2 | c2
   .exact .inl c2
   .refine .inr fun r hr=>?_;rw[qAa,ha.len,qEk] at c2;exact(qH r js).1.mp (c2 (r.1,r.2.1) (pm.mem_iff.mpr (List.mem_map.mpr ⟨r,hr,rfl⟩)))
 .rintro σ' H3 ⟨s3,js,kvs,U,o4,o5,o6,o7,o8,o9,J,ew,ej,cl,rfl⟩;rw[dl] at cl;exact⟨_,rfl,k lw kvs H3 s3 ew (J.done ok c0 hg run cl)⟩
theorem A2.EB:∀{ys:List V}{xs:List α},ys.length=xs.length->(∀(i:Nat) (y:V),ys[i]?=some y->∃(b:Addr) (x:α),y=V.ref b/\xs[i]?=some x/\S b x)->∃cs,ys=cs.map V.ref/\A2 S cs xs
 | [],[],_,_=>⟨[],rfl,.nil⟩
 | [],x::xs,h,_=>by cases h
 | y::ys,[],h,_=>by cases h
 | y::ys,x::xs,h,k=>by
  obtain⟨b,x',rfl,e,s⟩:=k 0 y rfl;cases e;obtain⟨cs,rfl,t⟩:=A2.EB (Nat.succ.inj h) fun i y e=>k (i+1) y e;exact⟨b::cs,rfl,.cons s t⟩
def ky(r:P3):Nat×Nat:=(r.1,r.2.1)
def Gv(qs:List P3)(g:Nat):List Nat:=(qAh qs.length).filter fun i=>((qs[i]?).map fun r=>both g r.1 r.2.1).getD false
def EC(qs:List P3)(g:Nat):List (Nat×Nat):=(Gv qs g).map fun i=>ky (qs.getD i (0,0,0))
theorem Ax:p∈EC qs g↔∃r∈qs,ky r=p/\both g r.1 r.2.1=true:=by
 delta EC Gv;constructor
 .intro h;obtain⟨i,hi,rfl⟩:=List.mem_map.mp h;rw[qMx,qNc] at hi;rw[qAj];rw[qAc hi.1] at hi|-;exact⟨_,qDm hi.1,rfl,hi.2⟩
 .rintro⟨r,hr,rfl,hb⟩;obtain⟨i,hi⟩:=List.mem_iff_getElem?.mp hr;have hil:=(List.getElem?_eq_some_iff.mp hi).1;refine List.mem_map.mpr ⟨i,List.mem_filter.mpr ⟨List.mem_range.mpr hil,?_⟩,?_⟩
  .rw[hi];exact hb
  .rw[qAj,hi];rfl
theorem Ay(hg:g<64)(h:dU r):both g r.1 r.2.1=uS (g+64) r:=by
 obtain⟨h1,h2⟩:=h;have z:∀k,k<7->aW (g+64) k=(aW g k||decide (k=6)):=fun k hk=>p7 ⟨g,hg⟩ ⟨k,hk⟩
 have z6:∀k,k<6->aW (g+64) k=aW g k:=fun k hk=>by rw[z k (by lia),decide_eq_false (by lia),qKo]
 delta uS ea eb;by_cases e:r.1=r.2.1
 .rw[if_pos e,z 6 #[1],decide_eq_true rfl,qJg,qHi,z6 _ (by lia)];delta both aW;rw[e,Bool.and_self]
 .rw[if_neg e,z6 _ (by lia),z6 _ h2];rfl
theorem Gw(hp:p.2<7)(hq:q.2<7)(h:gM p<gM q):HT.iS [(p.1:Int),(p.2:Int)] [(q.1:Int),(q.2:Int)]=false:=by
 delta gM at h;rw[HT.kT,HT.kT];by_cases e:p.1=q.1
 .rw[if_pos (by rw[e]),if_neg (by lia),decide_eq_false (by lia)]
 .rw[if_neg (by lia),decide_eq_false (by lia)]
def HK(K:qAb):Sp:=fun vs H Q _=>∃(lf d:Addr) (ob:Obj) (ds:List Addr) (iX:List (Nat×Nat)) (qs rs L:List P3) (g:Nat),vs=[.ref lf,.int (g:Int),.ref d]/\H lf=some (.lst (ds.map V.ref))/\A2 (uR H) ds iX/\H d=some (.frz ob (.dT (oU qs)))/\qs.length<=64/\(qs.map fun r=>(r.1,r.2.1)).Nodup/\(∀r,r∈qs↔r∈rs)/\(∀r∈rs,dU r)/\(∀r∈rs,0<=r.2.2)/\g<64/\iX.Perm (qJ L)/\iX.Pairwise (fun p q=>gM p<gM q)/\Run rs (g+64) 64 L/\∀H',aJ H H'->Q (.bl true) H'
theorem nV:aN ["_law_found","_law_group","_law_ropes","_law_within","_law_k","_law_rope","_law_worst","_law_one","_law_other","_law_here"] ["_law_found","_law_group","_law_ropes"] (aH JH):=#[1,2]
theorem LB(t:Tx K mg "_law_cheapest" JH ["_law_found","_law_group","_law_ropes"] f fd)(T:#[4])(D_law_whole:#[5] 1 "_law_whole" ["_law_found"] (pV K) f1 fd1)(D_law_joined:#[5] 1 "_law_joined" ["_law_found","_law_ropes"] (HJ K) f2 fd2):#[5] 2 "_law_cheapest" ["_law_found","_law_group","_law_ropes"] (HK K) f fd:=by
 refine t.jI nV (by rintro _ _ _ _⟨lf,d,ob,ds,iX,qs,rs,L,g,rfl,_⟩;rfl) fun _ _ _ s H vs Q E hr h=>?_;obtain⟨lf,d,ob,ds,iX,qs,rs,L,g,rfl,hlf,ha,hd,ql,nq,mem,ok,c0,hg,pm,qI,run,k⟩:=h;refine⟨_,(aD (lJ (NB:=["_law_rope","_law_group"]) (pick:=[none,some 1]) (i:=3) nV.nd rfl cC #[0] (bT #[7] (by exact(And.intro rfl trivial)) rfl #[2] #[2] #[0] #[0]) rfl
    (Ft (pv 2)) (fun _ _ _=>aK (i:=0) #[8,["_law_rope","_law_group"]] rfl cC)
    (fun _ _ _=>gL (aP bU (aL fG (aL fG (aL iB (pv 1) (aX (gQ K) (pv 0) aE #[6])) (aL iB (pv 1) (aX (gQ K) (pv 0) aE #[6]))) aE) aE (aT _))) (fun _ _ _=>(pv 0)))
  (aD (bN (PW.pt (pw_or (eK (cZ (aM fT #[0] T.iT jC (aA (pv 0) (aA (gO (v:=.ty "list") #[0] T.fK fU rfl) aB))))) (pw_or1 (aP hV (aM aU #[0] T.cG bV (aA (pv 0) aB)) (aM aU #[0] T.cG bV (aA (bP (NB:=["_law_k","_law_group"]) (pick:=[none,some 1]) (bT #[7] (by exact(And.intro rfl trivial)) rfl #[2] #[2] #[0] #[0]) rfl
    (c8 #[0] T.cO (aA aE aB)) (fun _ _ _=>aK (i:=0) #[8,["_law_k","_law_group"]] rfl cC)
    (fun _ _ _=>gL (aP bU (aL fG (aL iB (pv 1) (pv 0)) aE) aE (aT _))) (fun _ _ _=>(pv 0))) aB)) (aT _))))) (aG (aS gW)) aZ)
  (aD (dJ #[9] rfl (oK #[0] T.jE (aA (pv 0) aB)) (eL rfl (bA (aK (i:=4) nV.nd rfl #[3]) (bA (aK (i:=5) nV.nd rfl #[3]) dC)))
   (aD (bN (PW.pt (pw_or (eK (cZ (aM fT #[0] T.iT jC (aA (pv 5) (aA (gO (v:=.ty "tuple") #[0] T.j9 vN rfl) aB))))) (pw_or (aP (Br hr.units) (pv 5) (pv 3) #[0]) (pw_or1 (PW.pt (pw_and (aP (Dp hr.units) (dP gP (pv 0) eP (eQ (pv 4))) (bO aB) (aT _)) (pw_and1 (aP (IY (qBi (qHm _ 64) hr.units)) (aX bF (pv 0) (aL eW (pv 4) aE) #[6]) (pv 5) (aT _))))))))) (aG (aS gW)) aZ)
   (aG (bN (PW.pt (pw_or (eK (cZ (bH D_law_whole hr #[1] #[0] (aA (aX bL (pv 5) aE #[6]) aB)))) (pw_or1 (eK (cZ (bH D_law_whole hr #[1] #[0] (aA (aX bL (pv 5) aE #[6]) aB))))))) (aG (aS gW)) aZ))))
  (aD (bB (i:=6) nV.nd rfl cC (bH D_law_joined hr #[1] #[0] (aA (pv 0) (aA (pv 2) aB))))
  (aD (dJ #[9] rfl (bM (pv 3)) (eL rfl (bA (aK (i:=7) nV.nd rfl cC) (bA (aK (i:=8) nV.nd rfl cC) dC)))
   (aD (bB (i:=9) nV.nd rfl cC (aX bF (bO (aA (pv 7) (aA aE aB))) (bW gE #[0] T.hW iD (aA (dD bU (pv 7) (pv 8) (aT _)) aB)) #[6]))
   (aG (bN (PW.pt (pw_or (Cd (Bc (gZ hr) (cJ (aA (pv 9) (aA (pv 8) aB))) (pv 6))) (pw_or1 (aP jM (j4 (gZ hr) (pv 2) (cJ (aA (pv 7) (aA (pv 8) aB))) #[6]) (j4 (gZ hr) (pv 6) (cJ (aA (pv 9) (aA (pv 8) aB))) #[6]) (aT _))))) (aG (aS gW)) aZ))))
  (aG (aS gW))))))),?_⟩
 obtain⟨n1,n2,n3,n4,n5⟩:=gK ok hg run;have okq:∀r∈qs,r.1<6/\r.2.1<6:=fun r hr=>by
  have z:=ok r ((mem r).mp hr);exact⟨qBi z.1 z.2,z.2⟩
 have dl:ds.length=L.length:=by
  rw[ha.len,pm.length_eq];delta qJ;rw[qAa]
 have l6:L.length<=6:=by rw[n3];exact Er ⟨g,hg⟩
 have dql:(oU qs).length=qs.length:=by delta oU;rw[qAa]
 have bit:∀i:Nat,qBm ((g:Int)/2^(i:Int).toNat) 1=((g/2^i%2:Nat):Int):=fun i=>by rw[qBv,zK]
 exists _,rfl,d,ob,oU qs,rfl,hd;refine FC (fun i y H'=>∃(b:Addr) (x:Nat×Nat),y = .ref b/\x=ky (qs.getD i (0,0,0))/\uR H' b x) (fun i=>((qs[i]?).map fun r=>both g r.1 r.2.1).getD false) (by rintro i y G G' s ⟨b,x,e,e2,r⟩;exact ⟨b,x,e,e2,s _ _ r⟩) hd (by rw[dql];exact qBb (aO (by lia))) (fun i b kv H2 kk kk0 s2 hkv hb g1 g2=>?_) fun lwi ys H2 hlwi s2 hy hR hd2=>?_
 .obtain⟨⟨u,v,c⟩,hr',rfl⟩:∃r,qs[i]?=some r/\kv=([Sum.inl (r.1:Int),Sum.inl (r.2.1:Int)],V.int r.2.2):=by
   delta oU at hkv;rw[qAf] at hkv;cases e:qs[i]? with
   | none=>rw[e] at hkv;cases hkv
   | some r=>rw[e] at hkv;exact⟨r,rfl,(Option.some.inj hkv).symm⟩
  have hb:H2 b=some (.tup [.int (u:Int),.int (v:Int)]):=hb;obtain⟨hu,hv⟩:=okq _ (qAq hr');have hu:u<6:=hu;have hv:v<6:=hv;have ez:qBm (qBm ((g:Int)/2^(u:Int).toNat) ((g:Int)/2^(v:Int).toNat)) 1=(if both g u v=true then 1 else 0:Int):=by
   have z:(g/2^u &&& g/2^v) &&& 1=if both g u v=true then 1 else 0:=xF ⟨g,hg⟩ ⟨u,hu⟩ ⟨v,hv⟩;rw[qBv,qBv,show(g:Int)/2^u=((g/2^u:Nat):Int) by push_cast;rfl,show(g:Int)/2^v=((g/2^v:Nat):Int) by push_cast;rfl];show(((g/2^u &&& g/2^v) &&& 1:Nat):Int)=_;rw[z];split <;> rfl
  have a0:fM [V.int (u:Int),V.int (v:Int)] 0=some (.int (u:Int)):=rfl;have a1:fM [V.int (u:Int),V.int (v:Int)] 1=some (.int (v:Int)):=rfl;exists _,rfl,_,rfl,b,_,_,_,rfl,rfl,cQ.of hb,a0,_,_,rfl,rfl,(by show 0<=(u:Int);lia),_,rfl,_,rfl,b,_,_,_,rfl,rfl,cQ.of hb,a1,_,_,rfl,rfl,(by show 0<=(v:Int);lia),_,_,rfl,rfl,_,_,rfl,rfl,rfl,_,rfl;show if decide (V.int (qBm (qBm ((g:Int)/2^(u:Int).toNat) ((g:Int)/2^(v:Int).toNat)) 1)=V.int 1)=true then _ else _;rw[ez];rw[hr'] at g1 g2;cases ebo:both g u v with
  | true=>exact dG ⟨_,rfl,g1 ebo _ _ (.refl _) ⟨b,_,rfl,rfl,by rw[qAj,hr'];exact hb⟩⟩
  | false=>exact bK (g2 ebo _ (.refl _))
 rw[dql] at hy hR;obtain⟨ws,rfl,aw⟩:=A2.EB (S:=uR H2) (ys:=ys) (xs:=EC qs g) (by delta EC;rw[qAa];exact hy) fun j y e=>by
  obtain⟨i,hi,b,x,e1,e2,r⟩:=hR j y e;refine⟨b,x,e1,?_,r⟩;have hi:(Gv qs g)[j]?=some i:=hi;delta EC;rw[qAf,hi,e2];rfl
 clear hR hy
 have wl:ws.length=(EC qs g).length:=aw.len;have wl2:(EC qs g).length<=64:=by
  delta EC Gv;rw[qAa];have z:=qHy (fun i=>((qs[i]?).map fun r=>both g r.1 r.2.1).getD false) (qAh qs.length);rw[qBg] at z;lia
 have hlf2:=s2 _ _ hlf;have ha2:A2 (uR H2) ds iX:=ha.imp fun _ _ z=>s2 _ _ z;refine cI (σ':=[some (.ref lf),some (.int (g:Int)),some (.ref d),some (.ref lwi),none,none,none,none,none,none]) rfl ?_;refine⟨_,rfl,.ref lf,.ty "list",_,_,_,rfl,rfl,.of (.lst hlf2),Kd.lst.CN K,_,rfl,bK ?_⟩;refine⟨_,rfl,lf,_,rfl,.inl (aV.of hlf2),_,rfl,by decide,by decide,?_⟩;refine lN (n:=6) (fun i=>(hb g i).map V.int) #[1] (fun j H3 kk kk0 s3 hj g1 g2'=>?_) fun D H3 hD s3 hd3=>?_
 .rw[qEh];refine⟨_,rfl,_,rfl,_,_,rfl,rfl,(by show 0<=(j:Int);lia),_,_,rfl,rfl,rfl,_,rfl,cU (fun h3=>?_) (fun h3=>?_)⟩
  .have z:=V.int.inj (of_decide_eq_true h3);rw[bit] at z;exact⟨_,rfl,g1 _ (by delta hb;rw[if_pos (by lia)];rfl) _ (.refl _)⟩
  .have hno:¬g/2^j%2=1:=fun z=>h3 (by
    show decide (V.int (qBm ((g:Int)/2^(j:Int).toNat) 1)=V.int 1)=true;rw[bit,z];rfl)
   exact g2' (by delta hb;rw[if_neg hno];rfl) _ (.refl _)
 have hd3':H3 D=some (.lst ((dH g).map V.int)):=by
  rw[hd3,<- qGs,xM ⟨g,hg⟩]
 clear hd3
 have ev:V.int (((ds.map V.ref).length:Nat):Int)=V.int ((((dH g).map V.int).length:Nat):Int):=by
  rw[qAa,qAa,dl,n3]
 exists D,_,rfl,.inl (aV.of hd3');rw[ev];refine⟨rfl,_,rfl,Ey ?_⟩;have s23:=s2.trans s3;have hlf3:=s23 _ _ hlf;have hd2':=s3 _ _ hd2;have aw3:A2 (uR H3) ws (EC qs g):=aw.imp fun _ _ z=>s3 _ _ z;dsimp only[bR];have pk:∀p∈iX,∃r∈qs,ky r=p/\both g r.1 r.2.1=true:=fun p hp=>by
  obtain⟨r,hr',rfl⟩:=List.mem_map.mp (pm.mem_iff.mp hp);have z:=n1 r hr';exact⟨r,(mem r).mpr z.1,rfl,by rw[Ay hg (ok r z.1)];exact z.2⟩
 exists _,rfl,lf,rfl,⟨_,aV.of hlf3⟩;refine CV (xs:=ds.map V.ref) (fun i σ' H'=>aJ H3 H'/\∃o4 o5:Option V,σ'=[some (.ref lf),some (.int (g:Int)),some (.ref d),some (.ref lwi),o4,o5,none,none,none,none]) ⟨.refl _,_,_,rfl⟩ (fun i σ' H' _ hp=>aV.of (hp.1 _ _ hlf3)) ?_ ?_
 .rintro i x t σ' H4 hx ht ⟨s4,o4,o5,rfl⟩;rw[qAf] at hx;cases e:ds[i]? with
  | none=>rw[e] at hx;cases hx
  | some b =>
   rw[e] at hx;cases hx;obtain⟨p,hp,hb⟩:=ha.zO i b e;have u5:=aJ.aI (o:=.tup [V.int (i:Int),V.ref b]) ht;have e5:upd H4 t (.tup [V.int (i:Int),V.ref b]) t=some (.tup [V.int (i:Int),V.ref b]):=aC;generalize upd H4 t (.tup [V.int (i:Int),V.ref b])=H5 at u5 e5|-;have s35:=s4.trans u5;have hb5:H5 b=some (.tup [.int (p.1:Int),.int (p.2:Int)]):=s35 _ _ (s23 _ _ hb);have hw5:=s35 _ _ hd2';have hlf5:=s35 _ _ hlf3;have il:i<ds.length:=(List.getElem?_eq_some_iff.mp e).1;have pmem:p∈iX:=qAq hp;obtain⟨r,hrq,hrk,hrb⟩:=pk p pmem;have plt:∀p∈iX,p.2<7:=fun p hp=>by
    obtain⟨r,h1,h2,_⟩:=pk p hp;have z:=(okq r h1).2;rw[<- h2];show r.2.1<7;lia
   exists t,_,rfl,cQ.of e5,rfl,_,_,rfl,_,_,rfl,rfl;refine cI (σ':=[some (.ref lf),some (.int (g:Int)),some (.ref d),some (.ref lwi),some (.int (i:Int)),some (.ref b),none,none,none,none]) rfl ?_;refine⟨_,rfl,.ref b,.ty "tuple",_,_,_,rfl,rfl,.of (.tup hb5),Kd.tup.CP K,_,rfl,bK ?_⟩;have any_:(((EC qs g).map fun q:Nat×Nat=>((q.1:Int),(q.2:Int))).any fun q=>decide (q=((p.1:Int),(p.2:Int))))=true:=List.any_eq_true.mpr ⟨_,List.mem_map.mpr ⟨p,Ax.mpr ⟨r,hrq,hrk,hrb⟩,rfl⟩,decide_eq_true rfl⟩;refine⟨_,rfl,_,rfl,b,lwi,(p.1:Int),(p.2:Int),ws,(EC qs g).map fun q:Nat×Nat=>((q.1:Int),(q.2:Int)),rfl,rfl,hb5,aV.of hw5,by rw[qAa];exact wl,(fun k' b' q' x1 x2=>?_),?_⟩
   .obtain⟨y,hy,r'⟩:=aw3.zO k' b' x1;rw[qAf,hy] at x2;cases x2;exact s35 _ _ r'
   rw[any_];refine⟨_,rfl,bK ?_⟩;have a0:fM [V.int (p.1:Int),V.int (p.2:Int)] 0=some (.int (p.1:Int)):=rfl;have a1:fM [V.int (p.1:Int),V.int (p.2:Int)] 1=some (.int (p.2:Int)):=rfl;refine⟨_,rfl,_,rfl,_,rfl,lf,_,rfl,aV.of hlf5,fun l6 Er=>?_⟩;have v6:=aJ.aI (o:=.lst (gH (ds.map V.ref) none (some (i:Int)))) Er;have e6:upd H5 l6 (.lst (gH (ds.map V.ref) none (some (i:Int)))) l6=some (.lst (gH (ds.map V.ref) none (some (i:Int)))):=aC;generalize upd H5 l6 (.lst (gH (ds.map V.ref) none (some (i:Int))))=H6 at v6 e6|-;refine⟨by show 0<=qAg;decide,fun l7 hl7=>?_⟩;have v7:=aJ.aI (o:=.lst []) hl7;have e7:upd H6 l7 (.lst []) l7=some (.lst []):=aC;generalize upd H6 l7 (.lst [])=H7 at v7 e7|-;have v57:=v6.trans v7;have hb7:=v57 _ _ hb5;exists l6,l7,_,rfl,rfl,aV.of (v7 _ _ e6),aV.of e7,_,rfl;refine(fun key=>cU (fun h1=>?_) (fun h1=>bK key)) ?_
   .have i1:1<=i:=by
     rcases qDt i with z | z
     .rw[z] at h1;rw[zC,List.take_zero] at h1;exact absurd (of_decide_eq_true h1) #[1]
     .exact z
    have hi1:i-1<ds.length:=by lia
    have hat:fM (ds.map V.ref) ((i:Int)-1)=some (.ref ds[i-1]):=by
     rw[show(i:Int)-1=((i-1:Nat):Int) by lia];exact bS (by rw[qAf,qAc hi1];rfl)
    obtain⟨p',hp',hb'⟩:=ha.zO (i-1) ds[i-1] (qAc hi1);have hb7':H7 ds[i-1]=some (.tup [.int (p'.1:Int),.int (p'.2:Int)]):=v57 _ _ (s35 _ _ (s23 _ _ hb'));have lt:gM p'<gM p:=by
     have i1p:=(List.getElem?_eq_some_iff.mp hp');have ip:=(List.getElem?_eq_some_iff.mp hp);have z:=List.pairwise_iff_getElem.mp qI (i-1) i i1p.1 ip.1 (by lia);rw[i1p.2,ip.2] at z;exact z
    exists _,rfl,_,rfl,_,_,rfl,rfl,lf,_,_,_,rfl,rfl,aV.of (v57 _ _ hlf5),hat,_,rfl,_,b,[(p'.1:Int),(p'.2:Int)],[(p.1:Int),(p.2:Int)],rfl,rfl,cQ.of hb7',cQ.of hb7,_,rfl;show if HT.iS [(p'.1:Int),(p'.2:Int)] [(p.1:Int),(p.2:Int)]=true then _ else _;rw[Gw (plt p' (qAq hp')) (plt p pmem) lt];exact bK key
   dsimp only[bR];refine⟨_,rfl,b,_,_,_,rfl,rfl,cQ.of hb7,a0,_,rfl,.int _,_,rfl,bK ?_⟩;refine⟨_,rfl,b,_,_,_,rfl,rfl,cQ.of hb7,a1,_,rfl,.int _,_,rfl,bK ?_⟩;exact⟨s35.trans v57,_,_,rfl⟩
 .rintro σ' H4 ⟨s4,o4,o5,rfl⟩;have s24:=s23.trans s4;refine⟨_,rfl,_,rfl,lf,d,ob,ds,iX,qs,rs,L,g,rfl,s24 _ _ hlf,ha.imp fun _ _ z=>s24 _ _ z,s24 _ _ hd,nq,mem,ok,c0,hg,pm,run,fun lwo kvs H5 s5 ew wk=>?_⟩;dsimp only[bC];have s35:=s4.trans s5;have hw5:=s35 _ _ hd2';refine cI (σ':=[some (.ref lf),some (.int (g:Int)),some (.ref d),some (.ref lwi),o4,o5,some (.ref lwo),none,none,none]) rfl ?_;exists _,rfl,lwi,rfl,⟨_,aV.of hw5⟩;refine fR (xs:=ws.map V.ref) (fun i σ' H'=>aJ H5 H'/\∃o7 o8 o9:Option V,σ'=[some (.ref lf),some (.int (g:Int)),some (.ref d),some (.ref lwi),o4,o5,some (.ref lwo),o7,o8,o9]) ⟨.refl _,_,_,_,rfl⟩ (fun i σ' H' _ hp=>aV.of (hp.1 _ _ hw5)) ?_ ?_
  .rintro i x σ' H6 hx ⟨s6,o7,o8,o9,rfl⟩;rw[qAf] at hx;cases e:ws[i]? with
   | none=>rw[e] at hx;cases hx
   | some b =>
    rw[e] at hx;cases hx;obtain⟨p,hp,hb⟩:=aw3.zO i b e;obtain⟨r,hrq,rfl,hrb⟩:=Ax.mp (qAq hp);have hrr:=(mem r).mp hrq;obtain⟨v,hv,hle⟩:=wk r hrr (by rw[<- Ay hg (ok r hrr)];exact hrb);have hv:cM kvs (kk (e0 (r.1,r.2.1)) r.2.1)=some (.int v):=hv;have hcost:cM (oU qs) (kk r.1 r.2.1)=some (.int r.2.2):=by
     have z:=kA r.1 r.2.1 qs;rw[lY nq (n:=r.2.2) hrq] at z;exact z
    have hb6:H6 b=some (.tup [.int (r.1:Int),.int (r.2.1:Int)]):=s6 _ _ (s35 _ _ hb);exists b,_,rfl,cQ.of hb6,rfl,_,_,rfl,_,_,rfl,rfl;refine cI (σ':=[some (.ref lf),some (.int (g:Int)),some (.ref d),some (.ref lwi),o4,o5,some (.ref lwo),some (.int (r.1:Int)),some (.int (r.2.1:Int)),o9]) rfl ?_;refine⟨_,rfl,kY,fun lz hlz=>⟨_,rfl,_,rfl,rfl,.inr ⟨_,rfl,lz,_,_,_,rfl,rfl,aV.of aC,HI (r.1,r.2.1),?_⟩⟩⟩;have u7:=aJ.aI (o:=.lst [V.int (r.1:Int),V.int 6]) hlz;generalize upd H6 lz (.lst [V.int (r.1:Int),V.int 6])=H7 at u7|-;have s7:=s6.trans u7;dsimp only[bC];refine cI (σ':=[some (.ref lf),some (.int (g:Int)),some (.ref d),some (.ref lwi),o4,o5,some (.ref lwo),some (.int (r.1:Int)),some (.int (r.2.1:Int)),some (.int (e0 (r.1,r.2.1):Int))]) rfl ?_;refine⟨_,rfl,_,rfl,kY,fun b1 hb1=>?_⟩;have v1:=aJ.aI (o:=.tup [V.int (e0 (r.1,r.2.1):Int),V.int (r.2.1:Int)]) hb1;have y1:upd H7 b1 (.tup [V.int (e0 (r.1,r.2.1):Int),V.int (r.2.1:Int)]) b1=some (.tup ((kk (e0 (r.1,r.2.1)) r.2.1).map kV)):=aC;generalize upd H7 b1 (.tup [V.int (e0 (r.1,r.2.1):Int),V.int (r.2.1:Int)])=H8 at v1 y1|-;have s8:=s7.trans v1;refine⟨_,rfl,lwo,some (.int v),rfl,hv▸kR.t (s8 _ _ ew) y1,_,rfl,bK ?_⟩;refine⟨_,rfl,_,rfl,_,rfl,kY,fun b2 hb2=>?_⟩;have v2:=aJ.aI (o:=.tup [V.int (r.1:Int),V.int (r.2.1:Int)]) hb2;have y2:upd H8 b2 (.tup [V.int (r.1:Int),V.int (r.2.1:Int)]) b2=some (.tup ((kk r.1 r.2.1).map kV)):=aC;generalize upd H8 b2 (.tup [V.int (r.1:Int),V.int (r.2.1:Int)])=H9 at v2 y2|-;have s9:=s8.trans v2;refine⟨d,_,rfl,hcost▸zN (s9 _ _ (s5 _ _ (s24 _ _ hd))) y2,_,rfl,_,rfl,_,rfl,kY,fun b3 hb3=>?_⟩;have v3:=aJ.aI (o:=.tup [V.int (e0 (r.1,r.2.1):Int),V.int (r.2.1:Int)]) hb3;have y3:upd H9 b3 (.tup [V.int (e0 (r.1,r.2.1):Int),V.int (r.2.1:Int)]) b3=some (.tup ((kk (e0 (r.1,r.2.1)) r.2.1).map kV)):=aC;generalize upd H9 b3 (.tup [V.int (e0 (r.1,r.2.1):Int),V.int (r.2.1:Int)])=Ha at v3 y3|-;have sa:=s9.trans v3;exists lwo,_,rfl,hv▸kR.t (sa _ _ ew) y3,_,_,rfl,rfl,_,rfl;show if decide (r.2.2<v)=true then _ else _;rw[decide_eq_false (by lia)];exact bK ⟨sa,_,_,_,rfl⟩
  .rintro σ' H6 ⟨s6,o7,o8,o9,rfl⟩;exact k _ ((s24.trans s5).trans s6)
theorem sX{i u v:Nat}{n:Int}{qs:List P3}(nd:(qs.map fun p=>(p.1,p.2.1)).Nodup)(e:qs[i]?=some (u,v,n)):lX (qs.take i) u v=none:=by
 cases z:lX (qs.take i) u v with
 | none=>rfl
 | some n' =>
  have hm:=DP z;obtain⟨j,hj⟩:=qIg hm;have hji:j<i:=by
   rcases qBj j i with q | q
   .exact q
   .rw[qCu (by rw[qEl];lia)] at hj;cases hj
  rw[qHe hji] at hj;have hi:=(List.getElem?_eq_some_iff.mp e).1;have k1:(qs.map fun p=>(p.1,p.2.1))[j]?=some (u,v):=by rw[qAf,hj];rfl
  have k2:(qs.map fun p=>(p.1,p.2.1))[i]?=some (u,v):=by rw[qAf,e];rfl
  have:=(qIz (i:=j) (j:=i) (by rw[qAa];lia) nd).mp (k1.trans k2.symm);lia
theorem xN{i u v:Nat}{n:Int}{qs:List P3}(e:qs[i]?=some (u,v,n)):oU (qs.take (i+1))=oU (qs.take i)++[([Sum.inl (u:Int),Sum.inl (v:Int)],V.int n)]:=by
 delta oU;rw[qGb,e,qBw];rfl
theorem BW(pw:Pw m qs):((allR cs qs).map fun p=>(p.1,p.2.1)).Nodup:=by
 delta allR wQ;rw[qBw,qIy,qBo];refine⟨?_,pw.2,fun x hx y hy e=>?_⟩
 .refine List.pairwise_map.mpr ((qJk (n:=cs.length)).imp fun {a b} ne z=>ne ?_);exact(Prod.mk.inj z).1
 .subst e;obtain⟨i,_,rfl⟩:=List.mem_map.mp hx;obtain⟨r,hr,e⟩:=List.mem_map.mp hy;have z:=(pw.1 r hr).1;have e1:r.1=i:=(Prod.mk.inj e).1;have e2:r.2.1=i:=(Prod.mk.inj e).2;lia
theorem Az(h:i<cs.length):(allR cs qs)[i]?=some (i,i,cs.getD i 0):=by
 delta allR wQ;rw[qBu (by rw[qAa,qBg];exact h),qAf,qDx h];rfl
theorem Gx:(allR cs qs)[cs.length+i]?=qs[i]?:=by
 delta allR wQ;rw[qCd (by rw[qAa,qBg];lia),qAa,qBg,Nat.add_sub_cancel_left]
def uN(qs:List P3)(p:Nat×Nat):Int:=(lX qs p.1 p.2).getD 0
theorem BX{l l':List Int}(h:l.Perm l'):l.sum=l'.sum:=by
 induction h with
 | nil=>rfl
 | cons x _ ih=>rw[qCh,qCh,ih]
 | swap x y l=>rw[qCh,qCh,qCh,qCh];lia
 | trans _ _ h1 h2=>exact h1.trans h2
theorem Gy{qs L:List P3}{iX:List (Nat×Nat)}(nq:(qs.map fun r=>(r.1,r.2.1)).Nodup)(hL:∀r∈L,r∈qs)(pm:iX.Perm (qJ L)):(iX.map (uN qs)).sum=(L.map (·.2.2)).sum:=by
 rw[BX (pm.map (uN qs))];delta qJ;rw[qBo];congr 1;refine qDa fun r hr=>?_;show(lX qs r.1 r.2.1).getD 0=r.2.2;rw[lY nq (hL r hr)];rfl
theorem LC(hσ:σ[i]?=some (some (.ref d)))(h:H4 d=some (.dT kv)\/∃ob,H4 d=some (.frz ob (.dT kv)))(k:∀(H5:Hp) (ob:Obj),SameBut d H4 H5->H5 d=some (.frz ob (.dT kv))->Q (.ref d) H5):GN (tD i) σ H4 Q:=by
 exists _,hσ,d,kv,rfl;rcases h with h | ⟨ob,h⟩
 .exact .inl ⟨h,fun ob=>k _ ob (fun b o n e=>by rw[aQ n];exact e) aC⟩
 .exact .inr ⟨ob,h,k _ ob (fun b o _ e=>e) h⟩
def HL(K:qAb):Sp:=fun vs H Q _=>∃(ls p:Addr) (m:Nat) (r:R4),vs=[.ref ls,.ref p,.int (m:Int)]/\aV K H ls (((qAh (2^m)).map fun g=>gainN r.ns r.ps g).map V.int)/\qE H p m r/\r.k=5/\1<=m/\m<=6/\∀H',aJ H H'->Q (.bl true) H'
theorem mF:aN ["_law_sums","_law_row","_law_many","_law_net","_law_ropes","_law_hand","_law_one","_law_other","_law_number_here","_law_group","_law_found"] ["_law_sums","_law_row","_law_many"] (aH JJ):=#[1,2]
theorem LD{f1:Addr}{fd1:qCi}(t:Tx K mg "_law_netted" JJ ["_law_sums","_law_row","_law_many"] f fd)(T:#[4])(Z:ZR P w K mg base AL LN RU OW PL PA VO MA NE fE fH rR rO rP rA rV rM rN iR iO iP iA iV iM iN fL wR wO wP wA wV wM wN CO iC cH cE cW cT fN SE NG NL NT)(D_law_cheapest:#[5] 2 "_law_cheapest" ["_law_found","_law_group","_law_ropes"] (HK K) f1 fd1)(D_NNt:#[1,0] 5 ["self","group"] (Ho K NG NE) fN):#[5] 7 "_law_netted" ["_law_sums","_law_row","_law_many"] (HL K) f fd:=by
 refine t.jI mF (by rintro _ _ _ _⟨ls,p,m,r,rfl,_⟩;rfl) fun _ _ _ _ H vs Q E hr h=>?_;obtain⟨ls,p,m,r,rfl,hls,⟨ln,lp,bs,q1,q2,q3,a2,gr⟩,hk,m1,m6,k⟩:=h;have D_NI:=Z.NI;refine⟨_,(aD (bB (i:=3) mF.nd rfl cC (eN bY T.RQ D_NI hr #[1] #[0] T.Mq (aA (bW dF #[0] T.fK fU (aA (aX bL (pv 1) aE #[6]) aB)) (aA (bW dF #[0] T.fK fU (aA (aX bL (pv 1) aE #[6]) aB)) aB))))
  (aD (bB (i:=4) mF.nd rfl #[3] vV)
  (aD (dJ #[9] rfl (c8 #[0] T.cO (aA (pv 2) aB)) (aK (i:=5) mF.nd rfl cC)
   (aG (j5 (gZ hr) (pv 4) (cJ (aA (pv 5) (aA (pv 5) aB))) (aX bF (aX bL (pv 1) aE #[6]) (pv 5) #[6]) rfl)))
  (aD (dJ #[9] rfl (bM (aX bL (pv 1) aE #[6])) (eL rfl (bA (aK (i:=6) mF.nd rfl cC) (bA (aK (i:=7) mF.nd rfl cC) (bA (aK (i:=8) mF.nd rfl cC) dC))))
   (aG (j5 (gZ hr) (pv 4) (cJ (aA (pv 6) (aA (pv 7) aB))) (pv 8) rfl)))
  (aD (dJ #[9] rfl (c8 #[0] T.cO (aA (aM aU #[0] T.cG bV (aA (pv 0) aB)) aB)) (aK (i:=9) mF.nd rfl cC)
   (aD (bB (i:=10) mF.nd rfl #[3] (jP (k:=5) bY (pv 3) hr #[1] (aA (pv 9) aB)))
   (aG (bN (PW.pt (pw_or (eK (cZ (bH D_law_cheapest hr #[1] #[0] (aA (pv 10) (aA (pv 9) (aA (FA (pv 4)) aB)))))) (pw_or1 (aP hV (aM (fB rfl) #[0] T.hX iE (aA (bP (NB:=["_law_rope","_law_ropes"]) (pick:=[none,some 4]) (bT #[7] (by exact(And.intro rfl trivial)) rfl #[2] #[2] #[0] #[0]) rfl
    (bM (pv 10)) (fun _ _ _=>aK (i:=0) #[8,["_law_rope","_law_ropes"]] rfl cC)
    (fun _ _ _=>bX) (fun _ _ _=>(j4 (gZ hr) (pv 1) (pv 0) #[6]))) aB)) (aL eW aE (aX bF (pv 0) (pv 9) #[6])) (aT _))))) (aG (aS gW)) aZ))))
  (aG (aS gW))))))),?_⟩
 have nl:r.ns.length=m:=by rw[gr.sz,hk];rfl
 have n0:=gr.n0 hk;have pw:Pw r.ns.length r.ps:=by rw[nl];exact pw_of gr.toGoodR
 have p15:=gr.pl;have bl:=a2.len;have h64:2^m<=64:=qBt (n:=2) #[1] m6;have nd:=BW (cs:=r.ns) pw;have al:(allR r.ns r.ps).length=m+bs.length:=by delta allR wQ;rw[qAo,qAa,qBg,nl,bl]
 have rok:=iW (by lia) pw;have c0:∀x∈allR r.ns r.ps,0<=x.2.2:=fun x hx=>by
  rcases List.mem_append.mp hx with z | z
  .obtain⟨i,_,rfl⟩:=List.mem_map.mp z;show 0<=r.ns.getD i 0;rw[qAj];cases e:r.ns[i]? with
   | none=>exact qIo _
   | some n=>exact n0.1 n (qAq e)
  .exact n0.2 x z
 have b1:fM [V.str (gA r.k),V.ref ln,V.ref lp] 1=some (.ref ln):=rfl;have b2:fM [V.str (gA r.k),V.ref ln,V.ref lp] 2=some (.ref lp):=rfl;refine⟨_,rfl,p,_,_,_,rfl,rfl,cQ.of q1,b1,ln,_,rfl,.inl (aV.of q2),fun lc hlc=>?_⟩;have u1:=aJ.aI (o:=.lst (r.ns.map V.int)) hlc;have e1:upd H lc (.lst (r.ns.map V.int)) lc=some (.lst (r.ns.map V.int)):=aC;generalize upd H lc (.lst (r.ns.map V.int))=H1 at u1 e1|-;refine⟨_,rfl,p,_,_,_,rfl,rfl,cQ.of (u1 _ _ q1),b2,lp,_,rfl,.inl (aV.of (u1 _ _ q3)),fun lr hlr=>?_⟩;have u2:=aJ.aI (o:=.lst (bs.map V.ref)) hlr;have e2:upd H1 lr (.lst (bs.map V.ref)) lr=some (.lst (bs.map V.ref)):=aC;generalize upd H1 lr (.lst (bs.map V.ref))=H2 at u2 e2|-;have s2:=u1.trans u2;have a22:A2 (dW H2) bs r.ps:=a2.imp fun _ _ z=>z.keep s2.t;refine fun x dx hx hdx ne=>Ee hx hdx ne (u2 _ _ e1) (by lia) (by lia) n0.1 e2 (by rw[nl];exact mC a22 (.refl _) gr.qI gr.pb gr.pl) a22 n0.2 fun l' lr' rs H3 hl' hlr' s3 pm qI no=>⟨rfl,?_⟩;obtain rfl:rs=r.ps:=jX qI gr.qI pm;have s03:=s2.trans s3;dsimp only[bC];refine fun d hd=>?_;have ud:=aJ.aI (o:=.dT []) hd;have ed:upd H3 d (.dT []) d=some (.dT []):=aC;generalize upd H3 d (.dT [])=H4 at ud ed|-;dsimp only[bC];refine cI (σ':=[some (.ref ls),some (.ref p),some (.int (m:Int)),some (.ref x),some (.ref d),none,none,none,none,none,none]) rfl ?_;have q1':=s03 _ _ q1;have q2':=s03 _ _ q2;have q3':=s03 _ _ q3;have a23:A2 (dW H3) bs r.ps:=a2.imp fun _ _ z=>z.keep s03.t;refine⟨_,rfl,_,rfl,by lia,by lia,?_⟩;rw[qBv];refine eC (n:=m) (fun i σ' H'=>aJ H3 H'/\H' d=some (.dT (oU ((allR r.ns r.ps).take i)))/\∃o5:Option V,σ'=[some (.ref ls),some (.ref p),some (.int (m:Int)),some (.ref x),some (.ref d),o5,none,none,none,none,none]) ⟨ud,ed,_,rfl⟩ ?_ ?_
 .rintro i σ' H5 hi ⟨s5,d5,o5,rfl⟩;have hat:fM (r.ns.map V.int) (0+(i:Int))=some (.int (r.ns.getD i 0)):=by
   rw[qEh];exact fZ (by lia)
  refine⟨_,rfl,p,_,_,_,rfl,rfl,cQ.of (s5 _ _ q1'),b1,_,rfl,ln,_,_,_,rfl,rfl,aV.of (s5 _ _ q2'),hat,_,rfl,_,rfl,_,rfl,kY,fun tt htt=>?_⟩;have u6:=aJ.aI (o:=.tup [V.int (0+(i:Int)),V.int (0+(i:Int))]) htt;have ht:upd H5 tt (.tup [V.int (0+(i:Int)),V.int (0+(i:Int))]) tt=some (.tup (([Sum.inl (i:Int),Sum.inl (i:Int)]:List Key).map kV)):=by rw[aC,qEh];rfl
  refine⟨d,_,rfl,qU.t (k:=[Sum.inl (i:Int),Sum.inl (i:Int)]) (u6 _ _ d5) ht (by delta oU;rw[qAa,qEl];exact aO (by lia)),(s5.trans u6).upd_ne' hd,?_,_,rfl⟩;rw[aC,pG _ (by rw[kA,sX nd (Az (by lia))];rfl),xN (Az (by lia))]
 .rintro σ' H5 ⟨s5,d5,o5,rfl⟩;exists _,rfl,p,_,_,_,rfl,rfl,cQ.of (s5 _ _ q1'),b2,lp,rfl,⟨_,aV.of (s5 _ _ q3')⟩;refine fR (xs:=bs.map V.ref) (fun i σ' H'=>aJ H3 H'/\H' d=some (.dT (oU ((allR r.ns r.ps).take (m+i))))/\∃o6 o7 o8:Option V,σ'=[some (.ref ls),some (.ref p),some (.int (m:Int)),some (.ref x),some (.ref d),o5,o6,o7,o8,none,none]) ⟨s5,d5,_,_,_,rfl⟩ (fun i σ' H' _ hp=>aV.of (hp.1 _ _ q3')) ?_ ?_
  .rintro i y σ' H6 hy ⟨s6,d6,o6,o7,o8,rfl⟩;rw[qAf] at hy;cases e:bs[i]? with
   | none=>rw[e] at hy;cases hy
   | some b =>
    rw[e] at hy;cases hy;obtain⟨⟨u,v,c⟩,hp,ep⟩:=a23.zO i b e;have ep:H3 b=some (.tup [.int (u:Int),.int (v:Int),.int c]):=ep;have hi:=(List.getElem?_eq_some_iff.mp e).1;have hpa:(allR r.ns r.ps)[m+i]?=some (u,v,c):=by rw[<- nl,Gx];exact hp
    exists b,_,rfl,cQ.of (s6 _ _ ep),rfl,_,_,rfl,_,_,rfl,_,_,rfl,rfl;refine⟨_,rfl,_,rfl,_,rfl,_,rfl,kY,fun tt htt=>?_⟩;have u7:=aJ.aI (o:=.tup [V.int (u:Int),V.int (v:Int)]) htt;refine⟨d,_,rfl,qU.t (k:=[Sum.inl (u:Int),Sum.inl (v:Int)]) (u7 _ _ d6) aC (by delta oU;rw[qAa,qEl];exact aO (by lia)),(s6.trans u7).upd_ne' hd,?_,_,_,_,rfl⟩;rw[aC,pG _ (by rw[kA,sX nd hpa];rfl),<- qNs,xN hpa]
  .rintro σ' H6 ⟨s6,d6,o6,o7,o8,rfl⟩;rw[qAa,<- al,qEk] at d6;have sl:(((qAh (2^m)).map fun g=>gainN r.ns r.ps g).map V.int).length=2^m:=by rw[qAa,qAa,qBg]
   have at_:∀g:Nat,g<2^m->fM (((qAh (2^m)).map fun g=>gainN r.ns r.ps g).map V.int) (g:Int)=some (.int (gainN r.ns r.ps g)):=fun g hg=>by
    have z:=fZ (rs:=(qAh (2^m)).map fun g=>gainN r.ns r.ps g) (j:=g) (by rw[qAa,qBg];exact hg);rw[z,qAj,qAf,qDx hg];rfl
   generalize ((qAh (2^m)).map fun g=>gainN r.ns r.ps g).map V.int=ss at hls sl at_;have hls3:=s03.seq hls;refine⟨_,rfl,ls,ss,rfl,.inl (s6.seq hls3),((2^m:Nat):Int),(by show [V.int (ss.length:Int)]=_;rw[sl]),by lia,by lia,?_⟩;rw[qBv];refine eC (n:=2^m) (fun i σ' H'=>aJ H3 H'/\(H' d=some (.dT (oU (allR r.ns r.ps)))\/∃ob,H' d=some (.frz ob (.dT (oU (allR r.ns r.ps)))))/\∃o9 o10:Option V,σ'=[some (.ref ls),some (.ref p),some (.int (m:Int)),some (.ref x),some (.ref d),o5,o6,o7,o8,o9,o10]) ⟨s6,.inl d6,_,_,rfl⟩ ?_ ?_
   .rintro g σ' H7 hg ⟨s7,d7,o9,o10,rfl⟩;rw[qEh];dsimp only[bC];refine cI (σ':=[some (.ref ls),some (.ref p),some (.int (m:Int)),some (.ref x),some (.ref d),o5,o6,o7,o8,some (.int (g:Int)),o10]) rfl ?_;have no7:=no.same s7;have no7':=no7;obtain⟨dy,bs',h1,h2,h3,h4,c1,c6,pw',blen⟩:=no7';refine⟨_,rfl,x,NE,dy,_,fN,_,rfl,h1,rfl,T.uQ.oc.cl,T.SA,⟨_,D_NNt⟩,_,rfl,x,l',lr',r.ns,r.ps,_,rfl,no7,.int _,(fun z=>absurd z (by rw[oQ (by rw[nl];exact hg)];decide)),fun g' hv _ lf ds iX L H8 hlf s8 e8 a8 pmL pwL run=>?_⟩;obtain rfl:g'=g:=by have:=V.int.inj hv;lia
    have s38:=s7.trans s8;have d8:H8 d=some (.dT (oU (allR r.ns r.ps)))\/∃ob,H8 d=some (.frz ob (.dT (oU (allR r.ns r.ps)))):=by
     rcases d7 with z | ⟨ob,z⟩
     .exact .inl (s8 _ _ z)
     .exact .inr ⟨ob,s8 _ _ z⟩
    dsimp only[bC];refine cI (σ':=[some (.ref ls),some (.ref p),some (.int (m:Int)),some (.ref x),some (.ref d),o5,o6,o7,o8,some (.int (g':Int)),some (.ref lf)]) rfl ?_;obtain⟨n1,n2,n3,n4,n5⟩:=gK rok (by lia) run;refine⟨_,rfl,_,rfl,LC rfl d8 fun H9 ob s9 hd9=>?_⟩;have nd8:∀{b:Addr}{o:HO},H8 b=some o->b≠d->H9 b=some o:=fun e n=>s9 _ _ n e;have fd:∀{b:Addr}{us:List V},H8 b=some (.lst us)->b≠d:=fun e z=>by
     rw[z] at e;rcases d8 with y | ⟨ob,y⟩ <;> rw[y] at e <;> cases e
    have fd2:∀{b:Addr}{us:List V},H8 b=some (.tup us)->b≠d:=fun e z=>by
     rw[z] at e;rcases d8 with y | ⟨ob,y⟩ <;> rw[y] at e <;> cases e
    have s39:aJ H3 H9:=fun b o e=>s9 _ _ (fun z=>by rw[z,hd] at e;cases e) (s38 _ _ e);have hlf9:H9 lf=some (.lst (ds.map V.ref)):=nd8 e8 (fd e8);have a9:A2 (uR H9) ds iX:=a8.imp fun b q z=>nd8 z (fd2 z);have dl:ds.length<=6:=by
     rw[a8.len,pmL.length_eq];delta qJ;rw[qAa,n3];exact Er ⟨g',by lia⟩
    refine⟨lf,d,ob,ds,iX,allR r.ns r.ps,allR r.ns r.ps,L,g',rfl,hlf9,a9,hd9,by lia,nd,fun _=>Iff.rfl,rok,c0,by lia,pmL,List.pairwise_map.mp pwL,run,fun Ha sa=>⟨_,rfl,bK ?_⟩⟩;have s3a:=s39.trans sa;have hlfa:=sa _ _ hlf9;have aa:A2 (uR Ha) ds iX:=a9.imp fun _ _ z=>sa _ _ z;have hda:=sa _ _ hd9;exists _,rfl,lf,rfl,⟨_,aV.of hlfa⟩;refine gJ (xs:=ds.map V.ref) (fun σ'=>∃o0:Option V,σ'=[o0,some (.ref d)]) (fun i _=>(iX[i]?).map fun q=>V.int (uN (allR r.ns r.ps) q)) ⟨_,rfl⟩ (aV.of hlfa) (by rw[qAa];exact qBb (aO (by lia))) (fun i y σ1 Hb kk kk0 hσ sb hy g1 g2=>?_) fun D Hb hD sb hdD=>?_
    .obtain⟨o0,rfl⟩:=hσ;rw[qAf] at hy;cases e:ds[i]? with
     | none=>rw[e] at hy;cases hy
     | some b =>
      rw[e] at hy;cases hy;obtain⟨q,hq,hb⟩:=aa.zO i b e;obtain⟨r',hr',rfl⟩:=List.mem_map.mp (pmL.mem_iff.mp (qAq hq));have hcost:cM (oU (allR r.ns r.ps)) [Sum.inl (r'.1:Int),Sum.inl (r'.2.1:Int)]=some (.int (uN (allR r.ns r.ps) (r'.1,r'.2.1))):=by
       delta uN;rw[kA,lY nd (n:=r'.2.2) (n1 r' hr').1];rfl
      have hb':Hb b=some (.tup (([Sum.inl (r'.1:Int),Sum.inl (r'.2.1:Int)]:List Key).map kV)):=sb _ _ hb;exact⟨_,rfl,_,rfl,d,_,rfl,hcost▸zN (sb _ _ hda) hb',g1 _ _ ⟨_,rfl⟩ (by show(iX[i]?).map _=_;rw[hq];rfl) _ (.refl _)⟩
    have hdD2:Hb D=some (.lst ((iX.map (uN (allR r.ns r.ps))).map V.int)):=by
     rw[hdD];have e:(qAh (ds.map V.ref).length).filterMap (fun i=>((ds.map V.ref)[i]?).bind fun _=>(iX[i]?).map fun q=>V.int (uN (allR r.ns r.ps) q))=(qAh iX.length).filterMap fun i=>(iX[i]?).bind fun q=>some (V.int (uN (allR r.ns r.ps) q)):=by
      rw[qAa,aa.len];refine dY fun i hi=>?_;have hi':i<ds.length:=by rw[aa.len];exact List.mem_range.mp hi
      rw[qAf,qAc hi'];cases iX[i]? <;> rfl
     rw[e,cN,qBz,qBo];rfl
    clear hdD
    exists D,_,rfl,.inl (aV.of hdD2);have ev:V.int (iX.map (uN (allR r.ns r.ps))).sum=V.int (0-gainN r.ns r.ps g'):=by
     delta gainN;rw[oR run,Gy nd (fun x hx=>(n1 x hx).1) pmL];congr 1;lia
    rw[ev];refine⟨_,rfl,_,rfl,ls,ss,_,_,rfl,rfl,(s3a.trans sb).seq hls3,at_ g' hg,_,_,rfl,rfl,rfl,_,rfl,Ey ?_⟩;exact⟨s3a.trans sb,.inr ⟨ob,sb _ _ hda⟩,_,_,rfl⟩
   .rintro σ' H7 ⟨s7,d7,o9,o10,rfl⟩;exact k _ (s03.trans s7)
noncomputable def eX (r:R4) (g:Nat):Int:=eS r g-eR r g
noncomputable def lftL (rows:List qK) (m:Nat):List Int:=(qAh (2^m)).map fun g=>(rows.map fun r=>eX r.2 g).sum
theorem AA{F:qK->Int}:∀{rows:List qK}{i:Nat}{r:qK},rows[i]?=some r->(∀(j:Nat) (r':qK),rows[j]?=some r'->j≠i->F r'=0)->(rows.map F).sum=F r
 | [],_,_,h,_=>by cases h
 | x::xs,0,r,h,k=>by
  cases h
  have z:(xs.map F).sum=0:=by
   have:∀l:List qK,(∀y∈l,F y=0)->(l.map F).sum=0:=by
    intro l;induction l with
    | nil=>intro _;rfl
    | cons a b ih=>intro h;rw[qBa,qCh,h a qBn,ih fun y hy=>h y (qAs _ hy)];rfl
   refine this xs fun y hy=>?_;obtain⟨j,hj⟩:=List.mem_iff_getElem?.mp hy;exact k (j+1) y hj (by lia)
  rw[qBa,qCh,z];lia
 | x::xs,i+1,r,h,k=>by
  have z:=AA (F:=F) (rows:=xs) (i:=i) (r:=r) h fun j r' e n=>k (j+1) r' e (by lia);have z0:=k 0 x rfl (by lia);rw[qBa,qCh,z,z0];lia
theorem xO{F:qK->Int}:∀{rows:List qK},(∀r∈rows,F r=0)->(rows.map F).sum=0
 | [],_=>rfl
 | a::b,h=>by rw[qBa,qCh,h a qBn,xO fun y hy=>h y (qAs _ hy)];rfl
theorem Pr(h:¬(r.k=4\/r.k=5)):eX r g=0:=by
 delta eX;rw[BS (k:=r.k) rfl (fun z=>h (.inl z)) (fun z=>h (.inr z))];lia
theorem RB(h:r.k=4):eX r g=(bI r.ps g).1:=by
 delta eX eR;rw[Pe h,h];show _-0=_;lia
theorem RD(h:r.k=5):eX r g=gainN r.ns r.ps g:=by
 delta eX eR;rw[Pf h,h];show _-0=_;lia
theorem ED{rows:List qK}{sp i m:Nat}{r:qK}(one:nH sp rows)(hi:rows[i]?=some r)(hk:r.2.k=4\/r.2.k=5):lftL rows m=(qAh (2^m)).map fun g=>eX r.2 g:=by
 delta lftL;refine qDa fun g _=>?_;refine AA (F:=fun r=>eX r.2 g) hi fun j r' hj ne=>Pr fun hk'=>ne (one.2 j i r' r hj hi hk' hk)
theorem LF{rows:List qK}{m:Nat}(h:∀r∈rows,¬(r.2.k=4\/r.2.k=5)):lftL rows m=(qAh (2^m)).map fun _=>0:=by
 delta lftL;exact qDa fun g _=>xO (F:=fun r=>eX r.2 g) fun r hr=>Pr (h r hr)
def HM(K:qAb):Sp:=fun vs H Q _=>∃(ls lo:Addr) (m sp:Nat) (rows:List qK),vs=[.ref ls,.ref lo,.int (m:Int)]/\aV K H ls ((lftL rows m).map V.int)/\H lo=some (.lst (cS rows))/\qF H m rows/\nH sp rows/\rows.length<=12/\1<=m/\m<=6/\∀H',aJ H H'->Q (.bl true) H'
theorem HN:aN ["_law_sums","_law_some","_law_many","_law_row"] ["_law_sums","_law_some","_law_many"] (aH JK):=#[1,2]
theorem LG{f1 f2:Addr}{fd1 fd2:qCi}(t:Tx K mg "_law_left" JK ["_law_sums","_law_some","_law_many"] f fd)(T:#[4])(D_law_matched:#[5] 1 "_law_matched" ["_law_sums","_law_pairs"] (HH K) f1 fd1)(D_law_netted:#[5] 7 "_law_netted" ["_law_sums","_law_row","_law_many"] (HL K) f2 fd2):#[5] 8 "_law_left" ["_law_sums","_law_some","_law_many"] (HM K) f fd:=by
 refine t.jI HN (by rintro _ _ _ _⟨ls,lo,m,sp,rows,rfl,_⟩;rfl) fun _ _ _ _ H vs Q E hr h=>?_;obtain⟨ls,lo,m,sp,rows,rfl,hls,hlo,ra,one,r12,m1,m6,k⟩:=h;refine⟨_,(aD (dJ #[9] rfl (bM (pv 1)) (aK (i:=3) HN.nd rfl cC)
   (aD (bN (aP bU (aX bL (pv 3) aE #[6]) aY (aT _)) (aG (aS (kP (dD bU (aX bF (pv 0) aE #[6]) aE (aT _)) (mK (bH D_law_matched hr #[1] #[0] (aA (pv 0) (aA (aX bL (pv 3) aE #[6]) aB))))))) aZ)
   (aG (bN (aP bU (aX bL (pv 3) aE #[6]) aY (aT _)) (aG (aS (bH D_law_netted hr #[1] #[0] (aA (pv 0) (aA (pv 3) (aA (pv 2) aB)))))) aZ))))
  (aG (aS (xT (aM (Bq rfl) #[0] T.pT yO (aA (pv 0) aB)))))),?_⟩
 have rl:(cS rows).length=rows.length:=by delta cS;rw[qAa]
 exists _,rfl,lo,rfl,⟨_,aV.of hlo⟩;refine fR (xs:=cS rows) (fun i σ' H'=>aJ H H'/\(∀r∈rows.take i,¬(r.2.k=4\/r.2.k=5))/\∃o3:Option V,σ'=[some (.ref ls),some (.ref lo),some (.int (m:Int)),o3]) ⟨.refl _,(fun r hr=>by cases hr),_,rfl⟩ (fun i σ' H' _ hp=>aV.of (hp.1 _ _ hlo)) ?_ ?_
 .rintro i x σ' H1 hx ⟨s1,no,o3,rfl⟩;delta cS at hx;rw[qAf] at hx;cases e:rows[i]? with
  | none=>rw[e] at hx;cases hx
  | some y =>
   rw[e] at hx;cases hx;obtain⟨ln,lp,bs,q1,q2,q3,a2,gr⟩:=(ra y (qAq e)).same s1;have kd:=xI gr.k7;have b0:fM [V.str (gA y.2.k),V.ref ln,V.ref lp] 0=some (.str (gA y.2.k)):=rfl;have b2:fM [V.str (gA y.2.k),V.ref ln,V.ref lp] 2=some (.ref lp):=rfl;dsimp only[bC];refine cI (σ':=[some (.ref ls),some (.ref lo),some (.int (m:Int)),some (.ref y.1)]) rfl ?_;exists _,rfl,y.1,_,_,_,rfl,rfl,cQ.of q1,b0,rfl,_,rfl;dsimp only;rw[kd.1];refine cU (fun h4=>?_) (fun h4=>?_)
   .have h4:=of_decide_eq_true h4;have z:=ED (m:=m) one e (.inl h4);have z2:((qAh (2^m)).map fun g=>eX y.2 g)=(qAh (2^m)).map fun g=>(bI y.2.ps g).1:=qDa fun g _=>RB h4;have hls1:=s1.seq hls;rw[z,z2] at hls1;have h0:fM (((qAh (2^m)).map fun g=>(bI y.2.ps g).1).map V.int) 0=some (.int 0):=by
     have q:=fZ (rs:=(qAh (2^m)).map fun g=>(bI y.2.ps g).1) (j:=0) (by rw[qAa,qBg];exact qGa #[1]);have q2:((qAh (2^m)).map fun g=>(bI y.2.ps g).1).getD 0 0=0:=by
      rw[qAj,qAf,qDx (qGa #[1])];rfl
     rw[q2] at q;exact q
    exists _,rfl,ls,_,_,_,rfl,rfl,hls1,h0,rfl;refine⟨_,rfl,dG ?_⟩;exact⟨_,rfl,_,rfl,y.1,_,_,_,rfl,rfl,cQ.of q1,b2,ls,lp,bs,y.2.ps,m,rfl,hls1,q3,a2,pw_of gr.toGoodR,gr.pl,m6,fun H2 s2=>k _ (s1.trans s2)⟩
   .dsimp only[bR];exists _,rfl,y.1,_,_,_,rfl,rfl,cQ.of q1,b0,rfl,_,rfl;dsimp only;rw[kd.2];refine cU (fun h5=>?_) (fun h5=>?_)
    .have h5:=of_decide_eq_true h5;refine⟨_,rfl,_,rfl,_,rfl,ls,y.1,m,y.2,rfl,?_,⟨ln,lp,bs,q1,q2,q3,a2,gr⟩,h5,m1,m6,fun H2 s2=>k _ (s1.trans s2)⟩;have z:=ED (m:=m) one e (.inr h5);have z2:((qAh (2^m)).map fun g=>eX y.2 g)=(qAh (2^m)).map fun g=>gainN y.2.ns y.2.ps g:=qDa fun g _=>RD h5;rw[<- z2,<- z];exact s1.seq hls
    .refine⟨s1,fun r hr=>?_,_,rfl⟩;rw[qGb,e] at hr;rcases List.mem_append.mp hr with z | z
     .exact no r z
     .rw[show r=y from List.mem_singleton.mp z];rintro(q | q)
      .exact h4 (decide_eq_true q)
      .exact h5 (decide_eq_true q)
 .rintro σ' H1 ⟨s1,no,o3,rfl⟩;rw[rl,qEk] at no;have hls1:=s1.seq hls;rw[LF no] at hls1;have ea:(((qAh (2^m)).map fun _=>(0:Int)).any fun n=>n != 0)=false:=List.any_eq_false.mpr fun x hx=>by
   obtain⟨_,_,rfl⟩:=List.mem_map.mp hx;decide
  exists _,rfl,ls,_,rfl,hls1;rw[ea];exact⟨_,rfl,k _ s1⟩
theorem LH{m:Nat}(m6:m<=6):(m:Int).natAbs<10^60/\(("hands ":Str)++nW (m:Int)).length<=100:=by
 have hm:(m:Int).natAbs<10^60:=qBi (show(m:Int).natAbs<=6 by lia) #[2];exists hm;have l1:=eY hm;rw[Str.length_append];have:("hands ":Str).length=6:=rfl;lia
noncomputable def tabR (m:Nat) (rs:List R4):List Int:=(qAh (2^m)).map fun g=>(rs.map fun r=>eS r g).sum
theorem AB:∀{os:List Ru}{rs:List R4},os.length=rs.length->(∀(i:Nat) (o:Ru) (r:R4),os[i]?=some o->rs[i]?=some r->o.2.2 g=eS r g)->sS os g=(rs.map fun r=>eS r g).sum
 | [],[],_,_=>rfl
 | [],_::_,h,_=>by cases h
 | _::_,[],h,_=>by cases h
 | o::os,r::rs,h,k=>by
  have z:=AB (os:=os) (rs:=rs) (Nat.succ.inj h) fun i o r a b=>k (i+1) o r a b;unfold sS at z|-;rw[qBa,qBa,qCh,qCh,z,k 0 o r rfl rfl]
theorem tab_of(h:PF P w K mg base fE fH RU CO H c m rs):∃os:List Ru,wZ P w K mg base fE fH RU CO H c m os/\Ef m os=tabR m rs/\os.length=rs.length/\∀(i:Nat) (o:Ru) (r:R4),os[i]?=some o->rs[i]?=some r->kW P w K mg base H o.1 (dZ r):=by
 obtain⟨os,co,ol,rel⟩:=h;refine⟨os,co,?_,ol,fun i o r a b=>(rel i o r a b).1⟩;delta Ef tabR;exact qDa fun g _=>AB ol fun i o r a b=>(rel i o r a b).2 g
theorem xP(m:Nat)(rs:List R4):(tabR m rs).length=2^m:=by delta tabR;rw[qAa,qBg]
theorem uO(hg:g<2^m):(tabR m rs)[g]?=some (rs.map fun r=>eS r g).sum:=by
 delta tabR;rw[qAf,qDx hg];rfl
theorem xQ:∀{rs:List R4},(∀r∈rs,eS r 0=0)->(rs.map fun r=>eS r 0).sum=0
 | [],_=>rfl
 | a::b,h=>by rw[qBa,qCh,h a qBn,xQ fun y hy=>h y (qAs _ hy)];rfl
theorem BY(hg:∀r∈rs,jY m r)(m6:m<=6)(l12:rs.length<=12):∃ns:List Int,tabR m rs=0::ns/\∀n∈ns,n.natAbs<10^30:=by
 have hp:0<2^m:=qGa #[1];have z0:=uO (rs:=rs) hp;rw[xQ fun r hr=>RA (hg r hr).toGoodR] at z0;cases e:tabR m rs with
 | nil=>rw[e] at z0;cases z0
 | cons x ns =>
  rw[e] at z0;obtain rfl:x=0:=Option.some.inj z0;refine⟨ns,rfl,fun n hn=>?_⟩;have hn':n∈tabR m rs:=by rw[e];exact qAs _ hn
  delta tabR at hn';obtain⟨g,hg',rfl⟩:=List.mem_map.mp hn';have b:=Au (B:=63*10^19) (l:=rs.map fun r=>eS r g) fun n hn=>by
   obtain⟨r,hr,rfl⟩:=List.mem_map.mp hn;exact Rz (hg r hr) m6 (List.mem_range.mp hg')
  rw[qAa] at b;have b2:rs.length*(63*10^19)<=12*(63*10^19):=qEd _ l12;exact qBi (qAx b b2) #[2]
theorem EE(hl:(0::ns).length=2^m):tabR m [⟨6,ns,[],0⟩]=0::ns:=by
 refine qMm fun i=>?_;rcases qBj i (2^m) with h | h
 .rw[uO h,qAc (l:=0::ns) (by rw[hl];exact h)];congr 1;show(0::ns).getD i 0+0=_;rw[qAj,qAc (l:=0::ns) (by rw[hl];exact h),Int.add_zero];rfl
 .rw[qCu (by rw[xP];exact h),qCu (by rw[hl];exact h)]
theorem LI{m g:Nat}{rows:List qK}:((rows.map fun r=>r.2).map fun r=>eS r g).sum-(rows.map fun r=>eR r.2 g).sum=(rows.map fun r=>eX r.2 g).sum:=by
 induction rows with
 | nil=>rfl
 | cons a b ih =>
  rw[qBa,qBa,qBa,qBa,qCh,qCh,qCh,<- ih];delta eX;lia
def AD(K:qAb):Sp:=fun vs H Q _=>∃(a:Addr) (ns:List Int),vs=[.ref a]/\aV K H a (ns.map V.int)/\ns.length<=63/\∀H',Q (.bl true) H'
theorem jZ:aN ["_law_script","_law_draws_here","_law_head","_law_many","_law_some","_law_text","_law_company","_law_table","_law_number_here","_law_sums","_law_held"] ["_law_script"] (aH JL):=#[1,2]
theorem LJ{f1 f2 f3 f4 f5 f6 f7 f8:Addr}{fd1 fd2 fd3 fd4 fd5 fd6 fd7 fd8:qCi}(t:Tx K mg "law" JL ["_law_script"] f fd)(T:#[4])
  (D_law_draws:#[5] 1 "_law_draws" ["_law_script"] (Hz K) f1 fd1) (D_law_rules:#[5] 3 "_law_rules" ["_law_draws_here","_law_many","_law_special"] (HE K) f2 fd2)
  (D_law_part:#[5] 1 "_law_part" ["_law_head","_law_numbers","_law_pairs"] HC f3 fd3) (D_law_whole:#[5] 1 "_law_whole" ["_law_found"] (pV K) f4 fd4) (D_law_earned:#[5] 1 "_law_earned" ["_law_row","_law_group"] (HD K) f5 fd5)
  (D_law_left:#[5] 8 "_law_left" ["_law_sums","_law_some","_law_many"] (HM K) f6 fd6) (D_read:#[5] 10 "read" ["text"] (Hy P w K mg base fE fH RU CO) f7 fd7)
  (D_shown:#[5] 8 "shown" ["table"] (HG K) f8 fd8) (D_CW:#[1,0] 4 ["self"] (Gj P w K mg base fE fH RU CO) cW) (D_CT:#[1,0] 9 ["self"] (Lb P w K mg base fE fH RU CO) cT) :
  #[5] 12 "law" ["_law_script"] (AD K) f fd:=by
 refine t.jI jZ (by rintro _ _ _ _⟨a,ns,rfl,_⟩;rfl) fun _ _ _ s H vs Q E hr h=>?_;obtain⟨a,ns,rfl,hq,hns,k⟩:=h;refine⟨_,(aD (bB (i:=1) jZ.nd rfl cC (bH D_law_draws hr #[1] #[0] (aA (pv 0) aB)))
  (aD (bB (i:=2) jZ.nd rfl cC (aL dM (aX bF (pv 1) aE #[6]) aE))
  (aD (bB (i:=3) jZ.nd rfl cC (aL cR aE (aL dM (pv 2) aE)))
  (aD (bB (i:=4) jZ.nd rfl #[3] (bH D_law_rules hr #[1] #[0] (aA (pv 1) (aA (pv 3) (aA (aX bF (bO (aA aY (aA aY (aA aY aB)))) (aL iY (pv 2) aE) #[6]) aB)))))
  (aD (bB (i:=5) jZ.nd rfl cC (eD qCc qDi qDh fW aY (aA (aL cX (bO (aA (z9 (eG aY (eG (nO (pv 3)) tV))) aB)) (bP (NB:=["_law_row"]) (pick:=[none]) (bT #[7] (by exact trivial) rfl #[2] #[2] #[0] #[0]) rfl
    (bM (pv 4)) (fun _ _ _=>aK (i:=0) #[8,["_law_row"]] rfl cC)
    (fun _ _ _=>bX) (fun _ _ _=>(bH D_law_part hr #[1] #[0] (aA (aX (gQ K) (pv 0) aE #[6]) (aA (aX (gQ K) (pv 0) aE #[6]) (aA (aX (gQ K) (pv 0) aE #[6]) aB))))))) aB)))
  (aD (bB (i:=6) jZ.nd rfl cC (bH D_read hr #[1] #[0] (aA (pv 5) aB)))
  (aD (bB (i:=7) jZ.nd rfl #[3] (fO (k:=9) bY (pv 6) hr #[1]))
  (aD (bN (PW.pt (pw_or (eK (cZ (aM fT #[0] T.iT jC (aA (pv 7) (aA (gO (v:=.ty "list") #[0] T.fK fU rfl) aB))))) (pw_or (aP hV (aM aU #[0] T.cG bV (aA (pv 7) aB)) (aL oZ aE (pv 3)) (aT _)) (pw_or1 (aP hV (fO (k:=4) bY (pv 6) hr #[1]) (pv 5) (aT _)))))) (aG (aS gW)) aZ)
  (aD (dJ #[9] rfl (bM (pv 7)) (aK (i:=8) jZ.nd rfl cC)
   (aG (bN (eK (cZ (bH D_law_whole hr #[1] #[0] (aA (pv 8) aB)))) (aG (aS gW)) aZ)))
  (aD (De (y0:="_law_group") (NB:=["_law_group","_law_some","_law_table"]) (pick:=[none,some 4,some 7]) (i:=9) jZ.nd rfl cC #[0] (Fj #[7] (by exact(And.intro rfl (And.intro rfl trivial))) rfl (fun _=>rfl) (fun _=>rfl) #[2] (fun _=>rfl) #[0] #[0]) rfl
    (c8 #[0] T.cO (aA (aM aU #[0] T.cG bV (aA (pv 7) aB)) aB)) (fun _ _ _=>aK (i:=0) #[8,["_law_group","_law_some","_law_table"]] rfl (Or.inr rfl))
    (fun _ _ _=>bX) (fun _ _ _=>(aL eW (aX (vM K) (pv 2) (pv 0) #[6]) (aM (AX K rfl) #[0] T.hX iE (aA (bP (NB:=["_law_row","_law_group"]) (pick:=[none,some 0]) (bT #[7] (by exact(And.intro rfl trivial)) rfl #[2] #[2] #[0] #[0]) rfl
    (CW K (pv 1)) (fun _ _ _=>aK (i:=0) #[8,["_law_row","_law_group"]] rfl cC)
    (fun _ _ _=>bX) (fun _ _ _=>(bH D_law_earned hr #[1] #[0] (aA (pv 0) (aA (pv 1) aB))))) aB)))))
  (aD (bB (i:=10) jZ.nd rfl cC (bW dF #[0] T.fK fU (aA (pv 7) aB)))
  (aD (bN (PW.pt (pw_or (eK (cZ (bH D_law_left hr #[1] #[0] (aA (pv 9) (aA (pv 4) (aA (pv 3) aB)))))) (pw_or1 (aP (yM hr.units) (fO (k:=9) bY (bH D_read hr #[1] #[0] (aA (bH D_shown hr #[1] #[0] (aA (pv 7) aB)) aB)) hr #[1]) (pv 10) (aT _))))) (aG (aS gW)) aZ)
  (aD (bQ (eD qCp qCk qCj dN (pv 7) (aA aE aB)))
  (aD (bN (PW.pt (pw_or (aP (yM hr.units) (fO (k:=9) bY (pv 6) hr #[1]) (pv 10) (aT _)) (pw_or1 (aP (yM hr.units) (fO (k:=9) bY (bH D_read hr #[1] #[0] (aA (fO (k:=4) bY (pv 6) hr #[1]) aB)) hr #[1]) (pv 10) (aT _))))) (aG (aS gW)) aZ)
  (aG (aS (dD (CI hr.units) (pv 7) (aL cX (pv 10) (bO (aA aE aB))) (aT _)))))))))))))))))),?_⟩
 refine⟨_,rfl,a,ns,rfl,hq,hns,fun l0 D0 H1 hl0 s1 D64 D127 e1=>?_⟩;dsimp only[bC];obtain⟨d0,hd0⟩:∃d0:Int,fM (D0.map V.int) 0=some (.int d0):=⟨D0.getD 0 0,fZ (j:=0) (by lia)⟩;refine⟨_,rfl,l0,_,_,_,rfl,rfl,aV.of e1,hd0,_,_,rfl,rfl,(by show(0:Int)<18;decide),?_⟩;obtain⟨hd,hhd,hd1,hd2⟩:∃hd:Int,hd=d0%18/\0<=hd/\hd<18:=⟨_,rfl,qFv _ #[1],qEo _ #[1]⟩;dsimp only;rw[<- hhd];dsimp only[bC];exists _,rfl,_,_,rfl,rfl,(by show(0:Int)<6;decide),_,_,rfl,rfl;obtain⟨m,hm,m1,m6⟩:∃m:Nat,1+hd%6=(m:Int)/\1<=m/\m<=6:=⟨(1+hd%6).toNat,by lia,by lia,by lia⟩;dsimp only;rw[hm];dsimp only[bC];have h64:2^m<=64:=qBt (n:=2) #[1] m6;refine cI (σ':=[some (.ref a),some (.ref l0),some (.int hd),some (.int (m:Int)),none,none,none,none,none,none,none]) rfl ?_;refine⟨_,rfl,_,rfl,Cb,fun lz hlz=>?_⟩;have v2:=aJ.aI (o:=.lst [V.str ("":Str),V.str ("match":Str),V.str ("net":Str)]) hlz;have e2:upd H1 lz (.lst [V.str ("":Str),V.str ("match":Str),V.str ("net":Str)]) lz=some (.lst [V.str ("":Str),V.str ("match":Str),V.str ("net":Str)]):=aC;generalize upd H1 lz (.lst [V.str ("":Str),V.str ("match":Str),V.str ("net":Str)])=H2 at v2 e2|-;obtain⟨sp,hsp,asp⟩:∃sp:Nat,(sp=0\/sp=4\/sp=5)/\fM [V.str ("":Str),V.str ("match":Str),V.str ("net":Str)] (hd/6)=some (.str (spS sp)):=by
  have c:hd/6=0\/hd/6=1\/hd/6=2:=by lia
  rcases c with c | c | c
  .exact⟨0,.inl rfl,by rw[c];rfl⟩
  .exact⟨4,.inr (.inl rfl),by rw[c];rfl⟩
  .exact⟨5,.inr (.inr rfl),by rw[c];rfl⟩
 exists _,rfl,_,_,rfl,rfl,⟨by decide,by decide⟩,lz,_,_,_,rfl,rfl,aV.of e2,asp;refine⟨l0,D0,m,sp,rfl,hsp,aV.of (v2 _ _ e1),D64,m1,m6,fun lS rows H3 hlS s3 hS3 r12 rows3 one=>?_⟩;have u3:=(s1.trans v2).trans s3;have rrl:(cS rows).length=rows.length:=by delta cS;rw[qAa]
 have goods:∀r∈rows,jY m r.2:=fun r hr=>let ⟨_,_,_,_,_,_,_,g⟩:=rows3 r hr;g;obtain⟨hm60,lhd⟩:=LH m6;have eh:Str.empty++Str.ofString "hands "=("hands ":Str):=rfl;have lt:(("hands ":Str)++nW (m:Int)).length<=qAg:=qAx lhd #[1];have rowat:∀{i:Nat}{x:V},(cS rows)[i]?=some x->∃r,rows[i]?=some r/\x = .ref r.1/\r∈rows:=fun {i x} hx=>by
  delta cS at hx;rw[qAf] at hx;cases e:rows[i]? with
  | none=>rw[e] at hx;cases hx
  | some r=>rw[e] at hx;exact⟨r,rfl,(Option.some.inj hx).symm,qAq e⟩
 dsimp only[bC];refine cI (σ':=[some (.ref a),some (.ref l0),some (.int hd),some (.int (m:Int)),some (.ref lS),none,none,none,none,none,none]) rfl ?_;clear hlS e2 v2 hlz asp hhd hd0 e1 D64 D127;refine⟨rfl,_,rfl,by decide,_,rfl,(m:Int),rfl,g8 hm60,nW (m:Int),rfl,by rw[eh];exact lt,by rw[eh];exact lt,?_⟩;rw[eh];refine⟨mH,fun l2 hl2=>?_⟩;have v4:=aJ.aI (o:=.lst [V.str (("hands ":Str)++nW (m:Int))]) hl2;have h42:upd H3 l2 (.lst [V.str (("hands ":Str)++nW (m:Int))]) l2=some (.lst [V.str (("hands ":Str)++nW (m:Int))]):=aC;generalize upd H3 l2 (.lst [V.str (("hands ":Str)++nW (m:Int))])=H4 at v4 h42|-;have hS4:=v4 _ _ hS3;have rows4:=rows3.same v4;exists _,rfl,lS,rfl,⟨_,aV.of hS4⟩;refine cV (xs:=cS rows) (fun i _=>(rows[i]?).map fun r=>V.str (dZ r.2)) (aV.of hS4) (by rw[rrl];exact qBb (aO (by lia))) (fun i x H6 kk kk0 s6 hx g1 g2=>?_) fun D H6 hD s6 hdD=>?_
 .obtain⟨r,er,rfl,hr⟩:=rowat hx;obtain⟨ln,lp,bs,q1,q2,q3,q4,q5⟩:=rows4.same s6 r hr;have a0:fM [V.str (gA r.2.k),V.ref ln,V.ref lp] 0=some (.str (gA r.2.k)):=rfl;have a1:fM [V.str (gA r.2.k),V.ref ln,V.ref lp] 1=some (.ref ln):=rfl;have a2:fM [V.str (gA r.2.k),V.ref ln,V.ref lp] 2=some (.ref lp):=rfl;exact⟨_,rfl,r.1,_,_,_,rfl,rfl,cQ.of q1,a0,_,rfl,r.1,_,_,_,rfl,rfl,cQ.of q1,a1,_,rfl,r.1,_,_,_,rfl,rfl,cQ.of q1,a2,ln,lp,bs,m,r.2,r.2.ps,rfl,q5.toGoodR,m6,q2,q3,q4,.refl _,fun H7 s7=>g1 _ (by rw[er];rfl) _ s7⟩
 have ed:((qAh (cS rows).length).filterMap fun i=>((cS rows)[i]?).bind fun _=>(rows[i]?).map fun r=>V.str (dZ r.2))=(rows.map fun r=>dZ r.2).map V.str:=by
  rw[rrl,qBo];refine Eq.trans (dY (g:=fun i=>(rows[i]?).bind fun r=>some (V.str (dZ r.2))) fun i hi=>?_) ?_
  .have hi:=List.mem_range.mp hi;rw[qAc (l:=cS rows) (by rw[rrl];exact hi),qAc hi];rfl
  .rw[cN,qBz];rfl
 rw[ed] at hdD;refine⟨l2,D,_,_,rfl,rfl,aV.of (s6 _ _ h42),aV.of hdD,(by rw[qAa,qAa];exact fF (by show 1<=8;decide) (by lia)),fun l7 hl7=>?_⟩;refine⟨_,l7,(("hands ":Str)++nW (m:Int))::rows.map fun r=>dZ r.2,rfl,rfl,aV.of aC,cw_room lhd (by rw[qAa];lia) (fun s hs=>?_),?_⟩
 .obtain⟨r,hr,rfl⟩:=List.mem_map.mp hs;exact qAx (qD (goods r hr).toGoodR m6 (.refl _)) #[1]
 have u7:=v4.trans (s6.trans (aJ.aI (o:=.lst ([V.str (("hands ":Str)++nW (m:Int))]++(rows.map fun r=>dZ r.2).map V.str)) hl7));generalize upd H6 l7 (.lst ([V.str (("hands ":Str)++nW (m:Int))]++(rows.map fun r=>dZ r.2).map V.str))=H7 at u7|-;show bC 5 (V.str (Gi m (rows.map fun r=>dZ r.2))) _ _ _;dsimp only[bC];clear hdD s6 hD hl7 h42 hS4 rows4 v4 hl2 ed;obtain⟨tx,htx⟩:∃tx,tx=Gi m (rows.map fun r=>dZ r.2):=⟨_,rfl⟩;rw[<- htx];refine cI (σ':=[some (.ref a),some (.ref l0),some (.int hd),some (.int (m:Int)),some (.ref lS),some (.str tx),none,none,none,none,none]) rfl ?_;have ers:((rows.map fun r=>(r.2,r.2.ps)).map fun q:R4×List P3=>qB q.1 q.2)=rows.map fun r=>dZ r.2:=by rw[qBo];rfl
 have ers2:((rows.map fun r=>(r.2,r.2.ps)).map fun q:R4×List P3=>q.1)=rows.map fun r=>r.2:=by rw[qBo];rfl
 have grs:∀q∈rows.map fun r=>(r.2,r.2.ps),GoodR m q.1/\q.2.Perm q.1.ps:=fun q hq=>by
  obtain⟨r,hr,rfl⟩:=List.mem_map.mp hq;exact⟨(goods r hr).toGoodR,.refl _⟩
 refine⟨_,rfl,m,rows.map fun r=>(r.2,r.2.ps),(by rw[ers,htx];rfl),grs,by rw[qAa];exact r12,m1,m6,fun c H8 s8 co8=>?_⟩;rw[ers2] at co8;dsimp only[bC];obtain⟨os,co,etab,ol,rel⟩:=tab_of co8;obtain⟨dx,lru,h1,h2,h3,h4,h5,h6,h7⟩:=id co;clear ers ers2;have tbs:∀t∈rows.map fun r=>dZ r.2,t.length<=60000:=fun t ht=>by
  obtain⟨r,hr,rfl⟩:=List.mem_map.mp ht;exact qAx (qD (goods r hr).toGoodR m6 (.refl _)) #[1]
 rw[qAa] at ol;have words:∀{G:Hp}{R:VK}{X:XK},aJ H8 G->(∀H',aJ G H'->R (.str tx) H')->Gj P w K mg base fE fH RU CO [.ref c] G R X:=fun sg kk=>by
  refine⟨c,m,os,rows.map fun r=>dZ r.2,rfl,co.same sg,by rw[qAa];exact ol.symm,(fun i o tx' a' b'=>?_),tbs,fun H' s'=>by rw[<- htx];exact kk H' s'⟩;rw[qAf] at b';cases e:rows[i]? with
  | none=>rw[e] at b';cases b'
  | some r =>
   rw[e] at b';cases b';exact(rel i o r.2 a' (by rw[qAf,e];rfl)).same sg
 obtain⟨tb,htb⟩:∃tb,tb=tabR m (rows.map fun r=>r.2):=⟨_,rfl⟩;have tbl:tb.length=2^m:=by rw[htb,xP]
 obtain⟨ns',hns',hnb⟩:∃ns':List Int,tb=0::ns'/\∀n∈ns',n.natAbs<10^30:=by
  rw[htb];refine BY (fun r hr=>?_) m6 (by rw[qAa];exact r12);obtain⟨r',hr',rfl⟩:=List.mem_map.mp hr;exact goods r' hr'
 have table:∀{G:Hp}{R:VK}{X:XK},aJ H8 G->(∀D H',G D=none->aJ G H'->H' D=some (.lst (tb.map V.int))->R (.ref D) H')->Lb P w K mg base fE fH RU CO [.ref c] G R X:=fun sg kk=>⟨c,m,os,rfl,co.same sg,fun D H' a1 a2 a3=>kk D H' a1 a2 (by rw[a3,etab,htb])⟩;refine cI (σ':=[some (.ref a),some (.ref l0),some (.int hd),some (.int (m:Int)),some (.ref lS),some (.str tx),some (.ref c),none,none,none,none]) rfl ?_;exists _,rfl,c,CO,dx,_,cT,_,rfl,h1,rfl,T.kX.oc.cl,T.kX.mt,⟨_,D_CT⟩;try dsimp only[kD]
 refine table (.refl _) fun lt H9 hlt s9 e9=>?_;dsimp only[bC];refine cI (σ':=[some (.ref a),some (.ref l0),some (.int hd),some (.int (m:Int)),some (.ref lS),some (.str tx),some (.ref c),some (.ref lt),none,none,none]) rfl ?_;refine⟨_,rfl,.ref lt,.ty "list",_,_,_,rfl,rfl,.of (.lst e9),Kd.lst.CN K,_,rfl,bK ?_⟩;have ev:V.int (((tb.map V.int).length:Nat):Int)=V.int (1*2^(m:Int).toNat):=by
  rw[qAa,tbl,qBv,qIn];push_cast;rfl
 refine⟨_,rfl,lt,_,rfl,.inl (aV.of e9),_,rfl,_,_,rfl,rfl,⟨by lia,by lia,by decide⟩,rfl,_,rfl,vG ev ?_⟩;exists _,rfl,c,CO,dx,_,cW,_,rfl,s9 _ _ h1,rfl,T.kX.oc.cl,T.kX.mw,⟨_,D_CW⟩;try dsimp only[kD]
 refine words s9 fun Ha sa=>⟨_,rfl,rfl,_,rfl,vG rfl ?_⟩;dsimp only[bR];have s8a:=s9.trans sa;have ea:=sa _ _ e9;exists _,rfl,lt,rfl,⟨_,aV.of ea⟩;refine fR (xs:=tb.map V.int) (fun i σ' H'=>aJ Ha H'/\∃o8:Option V,σ'=[some (.ref a),some (.ref l0),some (.int hd),some (.int (m:Int)),some (.ref lS),some (.str tx),some (.ref c),some (.ref lt),o8,none,none]) ⟨.refl _,_,rfl⟩ (fun i σ' H' _ hp=>aV.of (hp.1 _ _ ea)) ?_ ?_
 .rintro i x σ' Hb hx ⟨sb,o8,rfl⟩;rw[qAf] at hx;cases e:tb[i]? with
  | none=>rw[e] at hx;cases hx
  | some n =>
   rw[e] at hx;cases hx;dsimp only[bC];exact⟨_,rfl,_,rfl,.int _,_,rfl,bK ⟨sb,_,rfl⟩⟩
 rintro σ' Hb ⟨sb,o8,rfl⟩;have s8b:=s8a.trans sb;have eb:=sb _ _ ea;have s3b:=u7.trans (s8.trans s8b);have hSb:=s3b _ _ hS3;have rowsb:=rows3.same s3b;refine⟨_,rfl,lt,_,rfl,.inl (aV.of eb),((2^m:Nat):Int),(by show [V.int ((tb.map V.int).length:Int)]=_;rw[qAa,tbl]),by lia,by lia,?_⟩;rw[qBv];refine lN (n:=2^m) (fun g=>some (.int (rows.map fun r=>eX r.2 g).sum)) (qBb (aO (by lia))) (fun g Hc kk kk0 sc hg g1 g2=>?_) fun lsu Hc hlsu sc hdc=>?_
 .rw[qEh];have ec:=sc _ _ eb;have hSc:=sc _ _ hSb;have rowsc:=rowsb.same sc;have hat:fM (tb.map V.int) (g:Int)=some (.int ((rows.map fun r=>r.2).map fun r=>eS r g).sum):=by
   have z:=fZ (rs:=tb) (j:=g) (by rw[tbl];exact hg);rw[z,qAj,htb,uO hg];rfl
  exists _,rfl,_,rfl,lt,_,_,_,rfl,rfl,aV.of ec,hat,_,rfl,lS,rfl,⟨_,aV.of hSc⟩;refine gJ (xs:=cS rows) (fun σ'=>∃o0:Option V,σ'=[o0,some (.int (g:Int))]) (fun i _=>(rows[i]?).map fun r=>V.int (eR r.2 g)) ⟨_,rfl⟩ (aV.of hSc) (by rw[rrl];exact qBb (aO (by lia))) (fun i x σ1 He kk kk0 hσ se hx g1 g2=>?_) fun D He hD se hde=>?_
  .obtain⟨o0,rfl⟩:=hσ;obtain⟨r,er,rfl,hr⟩:=rowat hx;exact⟨_,rfl,_,rfl,r.1,m,g,r.2,rfl,rowsc.same se r hr,m1,m6,hg,fun H' s'=>g1 _ _ ⟨_,rfl⟩ (by rw[er];rfl) _ s'⟩
  have ed:((qAh (cS rows).length).filterMap fun i=>((cS rows)[i]?).bind fun _=>(rows[i]?).map fun r=>V.int (eR r.2 g))=(rows.map fun r=>eR r.2 g).map V.int:=by
   rw[rrl,qBo];refine Eq.trans (dY (g:=fun i=>(rows[i]?).bind fun r=>some (V.int (eR r.2 g))) fun i hi=>?_) ?_
   .have hi:=List.mem_range.mp hi;rw[qAc (l:=cS rows) (by rw[rrl];exact hi),qAc hi];rfl
   .rw[cN,qBz];rfl
  rw[ed] at hde;refine⟨D,_,rfl,.inl (aV.of hde),_,_,rfl,rfl,g1 _ ?_ _ se⟩;dsimp only;rw[LI (m:=m)]
 have edc:(qAh (2^m)).filterMap (fun g=>some (V.int (rows.map fun r=>eX r.2 g).sum))=(lftL rows m).map V.int:=by
  delta lftL;rw[qBz,qBo];rfl
 rw[edc] at hdc;refine cI (σ':=[some (.ref a),some (.ref l0),some (.int hd),some (.int (m:Int)),some (.ref lS),some (.str tx),some (.ref c),some (.ref lt),o8,some (.ref lsu),none]) rfl ?_;have s8c:=s8b.trans sc;have ec:=sc _ _ eb;refine⟨_,rfl,lt,_,rfl,.inl (aV.of ec),fun lh hlh=>?_⟩;have ud:=aJ.aI (o:=.lst (tb.map V.int)) hlh;have ehd:upd Hc lh (.lst (tb.map V.int)) lh=some (.lst (tb.map V.int)):=aC;generalize upd Hc lh (.lst (tb.map V.int))=Hd at ud ehd|-;have s8d:=s8c.trans ud;have ed:=ud _ _ ec;have nlh:lh≠lt:=fun z=>by rw[z,ec] at hlh;cases hlh
 dsimp only[bC];refine cI (σ':=[some (.ref a),some (.ref l0),some (.int hd),some (.int (m:Int)),some (.ref lS),some (.str tx),some (.ref c),some (.ref lt),o8,some (.ref lsu),some (.ref lh)]) rfl ?_;have s3d:=u7.trans (s8.trans s8d);refine⟨_,rfl,_,rfl,_,rfl,lsu,lS,m,sp,rows,rfl,aV.of (ud _ _ hdc),s3d _ _ hS3,rows3.same s3d,one,r12,m1,m6,fun He se=>⟨_,rfl,bK ?_⟩⟩;have s8e:=s8d.trans se;have ee:=se _ _ ed;have ehe:=se _ _ ehd;have hl':(0::ns').length=2^m:=by rw[<- hns'];exact tbl
 rw[hns'] at ee;refine⟨_,rfl,lt,ns',m,rfl,ee,hl',m1,m6,hnb,fun Hf sf=>?_⟩;refine⟨m,[(⟨6,ns',[],0⟩,[])],rfl,(fun q hq=>?_),by show 1<=12;decide,m1,m6,fun c' Hg sg co'=>?_⟩
 .rw[qCz] at hq;subst hq;exact⟨xK hl' hnb,.refl _⟩
 rw[<- hns'] at ee;have co'':PF P w K mg base fE fH RU CO Hg c' m [⟨6,ns',[],0⟩]:=co';obtain⟨os',cob',etab',_,_⟩:=tab_of co'';obtain⟨dx',lru',h1',_⟩:=id cob';rw[EE hl',<- hns'] at etab';exists c',CO,dx',_,cT,_,rfl,h1',rfl,T.kX.oc.cl,T.kX.mt,⟨_,D_CT⟩;try dsimp only[kD]
 refine⟨c',m,os',rfl,cob',fun lt' Hh hlt' sh eh'=>?_⟩;rw[etab'] at eh';have seh:=(sf.trans sg).trans sh;refine⟨_,rfl,lt',lh,tb,tb,rfl,rfl,aV.of eh',aV.of (seh _ _ ehe),_,rfl,vG rfl ?_⟩;dsimp only[bR];have s8h:=s8e.trans seh;have eth:=seh _ _ ee;have ehh:=seh _ _ ehe;refine⟨_,rfl,.inl ⟨rfl,_,aV.of eth⟩,lt,_,_,rfl,rfl,eth,by rw[qAa,tbl];exact aO (by lia),?_⟩;have sHi:aJ H8 (upd Hh lt (.lst (tb.map V.int++[V.int 1]))):=s8h.upd_ne' hlt;have eti:upd Hh lt (.lst (tb.map V.int++[V.int 1])) lt=some (.lst ((tb++[1]).map V.int)):=by rw[aC,qBw];rfl
 have ehi:upd Hh lt (.lst (tb.map V.int++[V.int 1])) lh=some (.lst (tb.map V.int)):=by rw[aQ nlh];exact ehh
 generalize upd Hh lt (.lst (tb.map V.int++[V.int 1]))=Hi at sHi eti ehi|-;dsimp only[bR];exists _,rfl,c,CO,dx,_,cT,_,rfl,sHi _ _ h1,rfl,T.kX.oc.cl,T.kX.mt,⟨_,D_CT⟩;try dsimp only[kD]
 refine table sHi fun lt2 Hj hlt2 sj ej=>?_;refine⟨_,rfl,lt2,lh,tb,tb,rfl,rfl,aV.of ej,aV.of (sj _ _ ehi),_,rfl,vG rfl ?_⟩;have s8j:=sHi.trans sj;exists _,rfl,c,CO,dx,_,cW,_,rfl,s8j _ _ h1,rfl,T.kX.oc.cl,T.kX.mw,⟨_,D_CW⟩;try dsimp only[kD]
 refine words s8j fun Hk sk=>?_;refine⟨m,rows.map fun r=>(r.2,r.2.ps),(by rw[htx,qBo];rfl),grs,by rw[qAa];exact r12,m1,m6,fun c2 Hl sl co2=>?_⟩;have co2':PF P w K mg base fE fH RU CO Hl c2 m (rows.map fun r=>r.2):=by
  rw[qBo] at co2;exact co2
 obtain⟨os2,cob2,etab2,_,_⟩:=tab_of co2';obtain⟨dx2,lru2,h12,_⟩:=id cob2;rw[<- htb] at etab2;exists c2,CO,dx2,_,cT,_,rfl,h12,rfl,T.kX.oc.cl,T.kX.mt,⟨_,D_CT⟩;try dsimp only[kD]
 refine⟨c2,m,os2,rfl,cob2,fun lt3 Hm hlt3 sm em=>?_⟩;rw[etab2] at em;have sim:=((sj.trans sk).trans sl).trans sm;refine⟨_,rfl,lt3,lh,tb,tb,rfl,rfl,aV.of em,aV.of (sim _ _ ehi),_,rfl,vG rfl ?_⟩;dsimp only[bR];have etm:=sim _ _ eti;have ehm:=sim _ _ ehi;refine⟨_,rfl,_,rfl,mH,fun l9 hl9=>?_⟩;have u9:=aJ.aI (o:=.lst [V.int 1]) hl9;have e9':upd Hm l9 (.lst [V.int 1]) l9=some (.lst [V.int 1]):=aC;generalize upd Hm l9 (.lst [V.int 1])=Hn at u9 e9'|-;refine⟨lh,l9,_,_,rfl,rfl,aV.of (u9 _ _ ehm),aV.of e9',by rw[qAa,tbl];exact qBb (aO (by show 2^m+1<=1000;lia)),fun la hla=>?_⟩;have ua:=aJ.aI (o:=.lst (tb.map V.int++[V.int 1])) hla;have ea':upd Hn la (.lst (tb.map V.int++[V.int 1])) la=some (.lst ((tb++[1]).map V.int)):=by rw[aC,qBw];rfl
 exists lt,la,tb++[1],tb++[1],rfl,rfl,aV.of (ua _ _ (u9 _ _ etm)),aV.of ea';rw[decide_eq_true rfl];exact k _
end
end K20
namespace PySem.W.Fast
theorem tw16666469206068520382:1=1:=rfl
theorem tw1797589595769878087:1=1:=rfl
theorem tw10406163857062806927:1=1:=rfl
theorem tw3287352172601311725:1=1:=rfl
theorem tw4852649712433184865:1=1:=rfl
theorem tw13286702364097287040:1=1:=rfl
theorem tw1146306278456987163:1=1:=rfl
theorem tw1596011630316490394:1=1:=rfl
theorem tw16418330963105808685:1=1:=rfl
theorem tw5728957807339558426:1=1:=rfl
theorem tw15439758907648600356:1=1:=rfl
theorem tw16814086169296838110:1=1:=rfl
theorem tw4279114150453704637:1=1:=rfl
theorem tw3608311189626229543:1=1:=rfl
theorem tw3569492855551954245:1=1:=rfl
theorem tw13485489255086961950:1=1:=rfl
theorem tw2219199324495691098:1=1:=rfl
theorem tw12510520888368521016:1=1:=rfl
theorem tw10446103335721398615:1=1:=rfl
theorem tw1142843319591157845:1=1:=rfl
theorem tw1281498887293142907:1=1:=rfl
theorem tw17815317830691983749:1=1:=rfl
theorem tw10138340964058367369:1=1:=rfl
theorem tw2206649995135741440:1=1:=rfl
theorem tw9964572412806663176:1=1:=rfl
theorem tw17742923114041824442:1=1:=rfl
theorem tw4182051805933338618:1=1:=rfl
theorem tw9271188658840377636:1=1:=rfl
theorem tw11035240332583397829:1=1:=rfl
theorem tw5751614152887928118:1=1:=rfl
theorem tw15869695612736052076:1=1:=rfl
theorem tw6095266310628022455:1=1:=rfl
theorem tw8809065016683121001:1=1:=rfl
theorem tw14901189273472763891:1=1:=rfl
theorem tw2154241286391506770:1=1:=rfl
theorem tw9433294620874925707:1=1:=rfl
theorem tw3995242717863683576:1=1:=rfl
theorem tw12560021490137976792:1=1:=rfl
theorem tw8978497574529642042:1=1:=rfl
theorem tw13659506293908759697:1=1:=rfl
theorem tw10856113715316154666:1=1:=rfl
theorem tw2570995824235187143:1=1:=rfl
theorem tw949800289097577179:1=1:=rfl
theorem tw16183725196359304140:1=1:=rfl
theorem tw7429882021632757243:1=1:=rfl
theorem tw11635106718557687530:1=1:=rfl
theorem tw12427900162927497348:1=1:=rfl
theorem tw5978990683832771481:1=1:=rfl
theorem tw10865333430418648295:1=1:=rfl
theorem tw6735870700983586130:1=1:=rfl
theorem tw13287704492081416978:1=1:=rfl
theorem tw1096354691778933254:1=1:=rfl
theorem tw7487561597048039620:1=1:=rfl
theorem tw8071469809075976462:1=1:=rfl
theorem tw2824195744940388103:1=1:=rfl
theorem tw15138564448207142666:1=1:=rfl
theorem tw17460234703963341768:1=1:=rfl
theorem tw4653399979971893323:1=1:=rfl
theorem tw5882484827722206690:1=1:=rfl
theorem tw12114184622035404822:1=1:=rfl
theorem tw11569983503438896484:1=1:=rfl
theorem tw12818487152612097976:1=1:=rfl
theorem tw6413889471055092953:1=1:=rfl
theorem tw12357146156648004884:1=1:=rfl
theorem tw435933344090398395:1=1:=rfl
theorem tw2700554467223905245:1=1:=rfl
theorem tw17126181218544811401:1=1:=rfl
theorem tw1670889900041021880:1=1:=rfl
theorem tw5426647906704575528:1=1:=rfl
theorem tw6525425368105757103:1=1:=rfl
theorem tw6562430120712080993:1=1:=rfl
theorem tw3330247399455933370:1=1:=rfl
theorem tw12380206152036755750:1=1:=rfl
theorem tw14852988564153166198:1=1:=rfl
theorem tw4931256225553470748:1=1:=rfl
theorem tw16870658944266427906:1=1:=rfl
theorem tw1628261976672440518:1=1:=rfl
theorem tw5462730160967443565:1=1:=rfl
theorem tw12756307197347480528:1=1:=rfl
theorem tw3473321202454684908:1=1:=rfl
theorem tw4533788701820380136:1=1:=rfl
theorem tw6917800802149185226:1=1:=rfl
theorem tw12004744946533768920:1=1:=rfl
theorem tw15544598812701640225:1=1:=rfl
theorem tw10904374164793737810:1=1:=rfl
theorem tw6486395350635556676:1=1:=rfl
theorem tw501533072883336355:1=1:=rfl
theorem tw1435436517965365759:1=1:=rfl
theorem tw8540970010603493869:1=1:=rfl
theorem tw1098928306959258691:1=1:=rfl
theorem tw18328018005633696823:1=1:=rfl
theorem tw909304282043269144:1=1:=rfl
theorem tw8802561793248323618:1=1:=rfl
theorem tw11377453387804054911:1=1:=rfl
theorem tw9928734788656880354:1=1:=rfl
theorem tw13239763390026342552:1=1:=rfl
theorem tw6563722438948000311:1=1:=rfl
theorem tw1576030220576858857:1=1:=rfl
theorem tw504424204326034159:1=1:=rfl
theorem tw17217437264790740856:1=1:=rfl
theorem tw3222788847031581753:1=1:=rfl
theorem tw17166113147937064732:1=1:=rfl
theorem tw13503306015475722220:1=1:=rfl
theorem tw1063208305840392065:1=1:=rfl
theorem tw15475365970119097478:1=1:=rfl
theorem tw14103838872132344228:1=1:=rfl
theorem tw15458989091277241654:1=1:=rfl
theorem tw2256071604077992240:1=1:=rfl
theorem tw1844247283400846566:1=1:=rfl
theorem tw8131111788493138277:1=1:=rfl
theorem tw13708964424192171332:1=1:=rfl
theorem tw16343521575195638949:1=1:=rfl
theorem tw7704180073201521250:1=1:=rfl
theorem tw552158155532659739:1=1:=rfl
theorem tw16168584802416102643:1=1:=rfl
theorem tw530935141308423953:1=1:=rfl
theorem tw13417508111880698990:1=1:=rfl
theorem tw17268218705209615985:1=1:=rfl
theorem tw8057644878878229275:1=1:=rfl
theorem tw7686583287473969671:1=1:=rfl
theorem tw175045891160994489:1=1:=rfl
theorem tw12799568020566978625:1=1:=rfl
theorem tw8131325335671618166:1=1:=rfl
theorem tw7319616710564357914:1=1:=rfl
theorem tw13341577181318320532:1=1:=rfl
theorem tw11638520031573984829:1=1:=rfl
theorem tw4112583101991327843:1=1:=rfl
theorem tw3521794986517924884:1=1:=rfl
theorem tw17638005129692080334:1=1:=rfl
theorem tw14094436753901661428:1=1:=rfl
theorem tw17317304777684028233:1=1:=rfl
theorem tw14445309911231413841:1=1:=rfl
theorem tw13851175122087779655:1=1:=rfl
theorem tw5019948104650442640:1=1:=rfl
theorem tw352732278970465855:1=1:=rfl
theorem tw11589323990828346086:1=1:=rfl
theorem tw14172110633229715844:1=1:=rfl
theorem tw1034634105523148893:1=1:=rfl
theorem tw7981533153241189190:1=1:=rfl
theorem tw16154227926566520537:1=1:=rfl
theorem tw1875554635234430246:1=1:=rfl
theorem tw2809952303740723238:1=1:=rfl
theorem tw5277219392500497326:1=1:=rfl
theorem tw10695179284560479238:1=1:=rfl
theorem tw10514733719122157030:1=1:=rfl
theorem tw14553293107219286248:1=1:=rfl
theorem tw13650045888505628702:1=1:=rfl
theorem tw1784113350116343019:1=1:=rfl
theorem tw12730273129950090223:1=1:=rfl
theorem tw16707952831311887986:1=1:=rfl
theorem tw10702874605333052128:1=1:=rfl
theorem tw5900909283016172504:1=1:=rfl
theorem tw6995558882061647321:1=1:=rfl
theorem tw10372094616651853650:1=1:=rfl
theorem tw13046875908334558031:1=1:=rfl
theorem tw10725773409251566541:1=1:=rfl
theorem tw5660698595213962730:1=1:=rfl
theorem tw14319752764783763659:1=1:=rfl
theorem tw14569343542404435216:1=1:=rfl
theorem tw11702794635783641594:1=1:=rfl
theorem tw7454798569959795110:1=1:=rfl
theorem tw4531026714549464653:1=1:=rfl
theorem tw18285664372508226829:1=1:=rfl
theorem tw3706300099386282693:1=1:=rfl
theorem tw17237221513560921719:1=1:=rfl
theorem tw17173666275852455361:1=1:=rfl
theorem tw14228294859969196029:1=1:=rfl
theorem tw10728170433764438142:1=1:=rfl
theorem tw14042099809812426352:1=1:=rfl
theorem tw7980362723934193815:1=1:=rfl
theorem tw8477914031721672091:1=1:=rfl
theorem tw10062699695107250288:1=1:=rfl
theorem tw10187723859682076916:1=1:=rfl
theorem tw1372889611310516842:1=1:=rfl
theorem tw325971016738393827:1=1:=rfl
theorem tw9553159106003903677:1=1:=rfl
theorem tw6742641393639471599:1=1:=rfl
theorem tw10951357305155811063:1=1:=rfl
theorem tw13131095676521111059:1=1:=rfl
theorem tw4063813981561158398:1=1:=rfl
theorem tw10678591374668001116:1=1:=rfl
theorem tw9475163286856796630:1=1:=rfl
theorem tw11928076291297669108:1=1:=rfl
theorem tw6819360811238218853:1=1:=rfl
theorem tw3098940124151107196:1=1:=rfl
theorem tw17995670407558049232:1=1:=rfl
theorem tw9671277042660293543:1=1:=rfl
theorem tw11925117491827330825:1=1:=rfl
theorem tw11155058785257856645:1=1:=rfl
theorem tw16553780122512108333:1=1:=rfl
theorem tw17358687274063547149:1=1:=rfl
theorem tw2757625589834480544:1=1:=rfl
theorem tw13913648906996240376:1=1:=rfl
theorem tw8958584190709299034:1=1:=rfl
theorem tw7997902839080490799:1=1:=rfl
theorem tw18426745389989175365:1=1:=rfl
theorem tw8369407277376950129:1=1:=rfl
theorem tw5917724416906470204:1=1:=rfl
theorem tw13322870840250218110:1=1:=rfl
theorem tw11271318531075082511:1=1:=rfl
theorem tw4770025351982926118:1=1:=rfl
theorem tw5158865150923058005:1=1:=rfl
theorem tw2184701265294350072:1=1:=rfl
theorem tw3404607518712931572:1=1:=rfl
theorem tw6157223529418823927:1=1:=rfl
theorem tw5166247772007734702:1=1:=rfl
theorem tw4823787463012793053:1=1:=rfl
theorem tw13929480708274125356:1=1:=rfl
theorem tw11543925055656912648:1=1:=rfl
theorem tw8263588677690855440:1=1:=rfl
theorem tw1971398695443004600:1=1:=rfl
theorem tw4316863750826515439:1=1:=rfl
theorem tw654362060353345266:1=1:=rfl
theorem tw9511304125165209210:1=1:=rfl
theorem tw15827149728450844860:1=1:=rfl
theorem tw1646361587619591279:1=1:=rfl
theorem tw128317762098252107:1=1:=rfl
theorem tw14954490039937527415:1=1:=rfl
theorem tw5842173836994355213:1=1:=rfl
theorem tw11617200409173107964:1=1:=rfl
theorem tw14289307849799345296:1=1:=rfl
theorem tw6185325174996242688:1=1:=rfl
theorem tw11283737156878952097:1=1:=rfl
theorem tw16412338626417286696:1=1:=rfl
theorem tw16880388040915417904:1=1:=rfl
theorem tw4088600759276184457:1=1:=rfl
theorem tw14426245566558315301:1=1:=rfl
theorem tw11363765989941492496:1=1:=rfl
theorem tw6476835417809302858:1=1:=rfl
theorem tw4773960234552523022:1=1:=rfl
theorem tw11190696140013668059:1=1:=rfl
theorem tw17368571181896813721:1=1:=rfl
theorem tw14012014857945398516:1=1:=rfl
theorem tw5824166517764687897:1=1:=rfl
theorem tw2137913779849686277:1=1:=rfl
theorem tw6338836199726299954:1=1:=rfl
theorem tw2839224261370298996:1=1:=rfl
theorem tw3046838678529327403:1=1:=rfl
theorem tw11629183073672154770:1=1:=rfl
theorem tw14557370190516378405:1=1:=rfl
theorem tw16413076894737630350:1=1:=rfl
theorem tw9647060308791913093:1=1:=rfl
theorem tw17262542548591821099:1=1:=rfl
theorem tw17797518633208177860:1=1:=rfl
theorem tw2832268736789915600:1=1:=rfl
theorem tw8706125018534292847:1=1:=rfl
theorem tw1737049343348466365:1=1:=rfl
theorem tw2014950669334380060:1=1:=rfl
theorem tw4372516929726585835:1=1:=rfl
theorem tw1874594673066658666:1=1:=rfl
theorem tw13072110240052369599:1=1:=rfl
theorem tw8916601233373213343:1=1:=rfl
theorem tw13225850436233789160:1=1:=rfl
theorem tw8672163461083300135:1=1:=rfl
theorem tw12677099026269787874:1=1:=rfl
theorem tw12356942419418797440:1=1:=rfl
theorem tw7041562372345000067:1=1:=rfl
theorem tw14859609560208111013:1=1:=rfl
theorem tw11341037284124938326:1=1:=rfl
theorem tw9504155076058815707:1=1:=rfl
theorem tw6391298926590079501:1=1:=rfl
theorem tw2799868320046870417:1=1:=rfl
theorem tw2639594635913962137:1=1:=rfl
theorem tw16340848159972990254:1=1:=rfl
theorem tw7784524097009482034:1=1:=rfl
theorem tw18091074959520220753:1=1:=rfl
theorem tw2258438964202957483:1=1:=rfl
theorem tw7293127151830350025:1=1:=rfl
theorem tw14847549988429378514:1=1:=rfl
theorem tw2726462336044348804:1=1:=rfl
theorem tw15958955185663436030:1=1:=rfl
theorem tw8147236363402789569:1=1:=rfl
theorem tw5853422413800199267:1=1:=rfl
theorem tw6597691618980731221:1=1:=rfl
theorem tw7694188008329975303:1=1:=rfl
theorem tw10707901490253082803:1=1:=rfl
theorem tw16275648577152282048:1=1:=rfl
theorem tw7335787911120111445:1=1:=rfl
theorem tw6424385245508170461:1=1:=rfl
theorem tw3531341399219914347:1=1:=rfl
theorem tw1273425924787561131:1=1:=rfl
theorem tw12390814725675480431:1=1:=rfl
theorem tw8410078907196750343:1=1:=rfl
theorem tw14607597146262325011:1=1:=rfl
theorem tw3636324579807282276:1=1:=rfl
theorem tw12676807752248938701:1=1:=rfl
theorem tw3906672867148187272:1=1:=rfl
theorem tw8252858722730997254:1=1:=rfl
theorem tw7632643257175842337:1=1:=rfl
theorem tw8661955977967024598:1=1:=rfl
theorem tw3798378639524163452:1=1:=rfl
theorem tw18315475863239838419:1=1:=rfl
theorem tw6701011047607259968:1=1:=rfl
theorem tw16339711622848419287:1=1:=rfl
theorem tw13747623909680993796:1=1:=rfl
theorem tw2659871033285899952:1=1:=rfl
theorem tw5617286201638266766:1=1:=rfl
theorem tw12747524476602703259:1=1:=rfl
theorem tw5194314811322340336:1=1:=rfl
theorem tw10566064573893416063:1=1:=rfl
theorem tw14657576298862330355:1=1:=rfl
theorem tw16052939510050408259:1=1:=rfl
theorem tw16868009186415748973:1=1:=rfl
theorem tw2458883930767806716:1=1:=rfl
theorem tw7793955307664035239:1=1:=rfl
theorem tw5770699376110288191:1=1:=rfl
theorem tw4203207411807825247:1=1:=rfl
theorem tw1261666802392204456:1=1:=rfl
theorem tw12306256597125266811:1=1:=rfl
theorem tw13944049128374244166:1=1:=rfl
theorem tw14210555131876950997:1=1:=rfl
theorem tw7445575031263599184:1=1:=rfl
theorem tw15746647403305888161:1=1:=rfl
theorem tw6390969526063412040:1=1:=rfl
theorem tw8578283461731332370:1=1:=rfl
theorem tw15804967899905111901:1=1:=rfl
theorem tw3040414041870042278:1=1:=rfl
theorem tw8808245722928025611:1=1:=rfl
theorem tw8983856564572823905:1=1:=rfl
theorem tw15281458584187164009:1=1:=rfl
theorem tw6163327567237276389:1=1:=rfl
theorem tw13915925611926257762:1=1:=rfl
theorem tw4948929129060744506:1=1:=rfl
theorem tw10238000537800567921:1=1:=rfl
theorem tw516876694614412408:1=1:=rfl
theorem tw10939434752166240765:1=1:=rfl
theorem tw17008174683628545606:1=1:=rfl
theorem tw6069855063656365879:1=1:=rfl
theorem tw17758364319798303699:1=1:=rfl
theorem tw6798848363675489381:1=1:=rfl
theorem tw1036138783766212730:1=1:=rfl
theorem tw7817217111072803849:1=1:=rfl
theorem tw1490675650272515523:1=1:=rfl
theorem tw3948962738226658585:1=1:=rfl
theorem tw13183466236489209703:1=1:=rfl
theorem tw1836387614638767575:1=1:=rfl
theorem tw587843839892164203:1=1:=rfl
theorem tw15523896065120239233:1=1:=rfl
theorem tw6385377770303738072:1=1:=rfl
theorem tw13298881528526141766:1=1:=rfl
theorem tw4799570431082555027:1=1:=rfl
theorem tw10870483834389120526:1=1:=rfl
theorem tw14322603369841728777:1=1:=rfl
theorem tw15975586363455525791:1=1:=rfl
theorem tw11632522647325867469:1=1:=rfl
theorem tw16200761807955210354:1=1:=rfl
theorem tw2268934929107034623:1=1:=rfl
theorem tw12877239492305607070:1=1:=rfl
theorem tw7360799914391661899:1=1:=rfl
theorem tw1883827688516646415:1=1:=rfl
theorem tw15957774146444840590:1=1:=rfl
theorem tw6304777437325595947:1=1:=rfl
theorem tw2215101494409131336:1=1:=rfl
theorem tw12145302745214980934:1=1:=rfl
theorem tw14809462558448372017:1=1:=rfl
theorem tw5137446666735954182:1=1:=rfl
theorem tw7023750443273536582:1=1:=rfl
theorem tw11489056178154150213:1=1:=rfl
theorem tw17706004620843307233:1=1:=rfl
theorem tw17186858966325527630:1=1:=rfl
theorem tw1952968999768455894:1=1:=rfl
theorem tw3772551907253807888:1=1:=rfl
theorem tw12414579473250715806:1=1:=rfl
theorem tw13526092479388735190:1=1:=rfl
theorem tw11809559860395200412:1=1:=rfl
theorem tw838987679347092812:1=1:=rfl
theorem tw15001173164667711081:1=1:=rfl
theorem tw12307935277341843834:1=1:=rfl
theorem tw9754112626621914995:1=1:=rfl
theorem tw10329565825361148191:1=1:=rfl
theorem tw12069439188061591186:1=1:=rfl
theorem tw16401888740135914939:1=1:=rfl
theorem tw18311797701464390592:1=1:=rfl
theorem tw9844973747658295211:1=1:=rfl
theorem tw4613101795760432890:1=1:=rfl
theorem tw14160493515774101317:1=1:=rfl
theorem tw1700122725336822465:1=1:=rfl
theorem tw16349224069544278742:1=1:=rfl
theorem tw8958278279845124334:1=1:=rfl
theorem tw13002297364656013968:1=1:=rfl
theorem tw15870992521974303067:1=1:=rfl
theorem tw3503130932006461275:1=1:=rfl
theorem tw5088380810304486186:1=1:=rfl
theorem tw4146311701974487364:1=1:=rfl
theorem tw7718487414282686262:1=1:=rfl
theorem tw11142710554980880454:1=1:=rfl
theorem tw16288158796462255006:1=1:=rfl
theorem tw16526472653634989966:1=1:=rfl
theorem tw7819567901022439518:1=1:=rfl
theorem tw10655736038942269623:1=1:=rfl
theorem tw1126944124223231166:1=1:=rfl
theorem tw13278704321657413268:1=1:=rfl
theorem tw13443761367633417857:1=1:=rfl
theorem tw12154815379181635174:1=1:=rfl
theorem tw12204942226348465286:1=1:=rfl
theorem tw7629395188119617083:1=1:=rfl
theorem tw16894699956749148160:1=1:=rfl
theorem tw3376427153657981262:1=1:=rfl
theorem tw5119204619244604415:1=1:=rfl
theorem tw10351669423207204982:1=1:=rfl
theorem tw18174204083307031291:1=1:=rfl
theorem tw10331938439159807865:1=1:=rfl
theorem tw14931711941355998372:1=1:=rfl
theorem tw15494083584037114104:1=1:=rfl
theorem tw8954595162887110499:1=1:=rfl
end PySem.W.Fast
set_option maxHeartbeats 8000000
namespace K20
open PySem L2
theorem RE{K:qAb}{mg:Str->Option qAi}{h:Heap}{AL LN RU OW PL PA VO MA NE fE fH rR rO rP rA rV rM rN iR iO iP iA iV iM iN fL wR wO wP wA wV wM wN CO iC cH cE cW cT fN SE NG NL NT:Addr}  {n_AL:Nat}{osl_AL:Array (Option qAi)}{t_AL0 t_AL1 t_AL2 t_AL3 t_AL4 t_AL5:Tok}  {n_LN:Nat}{osl_LN:Array (Option qAi)}{t_LN0 t_LN1 t_LN2 t_LN3 t_LN4 t_LN5 t_LN6:Tok}  {tk_we:Tok}{tk_mr:Tok}{tk_mf:Tok}{tk_fg:Tok}                                            {oc_RI kV_RI doc_RI pm_RI cdv_RI ct_RI:qAi}{od_RI an_RI:Option Addr}{osl_RI:Array (Option qAi)}{oc_H kV_H doc_H pm_H cdv_H ct_H:qAi}{od_H an_H:Option Addr}{osl_H:Array (Option qAi)}{oc_E kV_E doc_E pm_E cdv_E ct_E:qAi}{od_E an_E:Option Addr}{osl_E:Array (Option qAi)}{oc_RR kV_RR doc_RR pm_RR cdv_RR ct_RR:qAi}{od_RR an_RR:Option Addr}{osl_RR:Array (Option qAi)}{oc_RW kV_RW doc_RW pm_RW cdv_RW ct_RW:qAi}{od_RW an_RW:Option Addr}{osl_RW:Array (Option qAi)}{oc_OI kV_OI doc_OI pm_OI cdv_OI ct_OI:qAi}{od_OI an_OI:Option Addr}{osl_OI:Array (Option qAi)}{oc_OR kV_OR doc_OR pm_OR cdv_OR ct_OR:qAi}{od_OR an_OR:Option Addr}{osl_OR:Array (Option qAi)}{oc_OWo kV_OWo doc_OWo pm_OWo cdv_OWo ct_OWo:qAi}{od_OWo an_OWo:Option Addr}{osl_OWo:Array (Option qAi)}{oc_PI kV_PI doc_PI pm_PI cdv_PI ct_PI:qAi}{od_PI an_PI:Option Addr}{osl_PI:Array (Option qAi)}{oc_PR kV_PR doc_PR pm_PR cdv_PR ct_PR:qAi}{od_PR an_PR:Option Addr}{osl_PR:Array (Option qAi)}{oc_PlW kV_PlW doc_PlW pm_PlW cdv_PlW ct_PlW:qAi}{od_PlW an_PlW:Option Addr}{osl_PlW:Array (Option qAi)}{oc_PaI kV_PaI doc_PaI pm_PaI cdv_PaI ct_PaI:qAi}{od_PaI an_PaI:Option Addr}{osl_PaI:Array (Option qAi)}{oc_PaR kV_PaR doc_PaR pm_PaR cdv_PaR ct_PaR:qAi}{od_PaR an_PaR:Option Addr}{osl_PaR:Array (Option qAi)}{oc_PaW kV_PaW doc_PaW pm_PaW cdv_PaW ct_PaW:qAi}{od_PaW an_PaW:Option Addr}{osl_PaW:Array (Option qAi)}{oc_VI kV_VI doc_VI pm_VI cdv_VI ct_VI:qAi}{od_VI an_VI:Option Addr}{osl_VI:Array (Option qAi)}{oc_VR kV_VR doc_VR pm_VR cdv_VR ct_VR:qAi}{od_VR an_VR:Option Addr}{osl_VR:Array (Option qAi)}{oc_VW kV_VW doc_VW pm_VW cdv_VW ct_VW:qAi}{od_VW an_VW:Option Addr}{osl_VW:Array (Option qAi)}{oc_MI kV_MI doc_MI pm_MI cdv_MI ct_MI:qAi}{od_MI an_MI:Option Addr}{osl_MI:Array (Option qAi)}{oc_MR kV_MR doc_MR pm_MR cdv_MR ct_MR:qAi}{od_MR an_MR:Option Addr}{osl_MR:Array (Option qAi)}{oc_MW kV_MW doc_MW pm_MW cdv_MW ct_MW:qAi}{od_MW an_MW:Option Addr}{osl_MW:Array (Option qAi)}{oc_NI kV_NI doc_NI pm_NI cdv_NI ct_NI:qAi}{od_NI an_NI:Option Addr}{osl_NI:Array (Option qAi)}{oc_NLs kV_NLs doc_NLs pm_NLs cdv_NLs ct_NLs:qAi}{od_NLs an_NLs:Option Addr}{osl_NLs:Array (Option qAi)}{oc_NRk kV_NRk doc_NRk pm_NRk cdv_NRk ct_NRk:qAi}{od_NRk an_NRk:Option Addr}{osl_NRk:Array (Option qAi)}{oc_NW kV_NW doc_NW pm_NW cdv_NW ct_NW:qAi}{od_NW an_NW:Option Addr}{osl_NW:Array (Option qAi)}{oc_CI kV_CI doc_CI pm_CI cdv_CI ct_CI:qAi}{od_CI an_CI:Option Addr}{osl_CI:Array (Option qAi)}{oc_CHs kV_CHs doc_CHs pm_CHs cdv_CHs ct_CHs:qAi}{od_CHs an_CHs:Option Addr}{osl_CHs:Array (Option qAi)}{oc_CEn kV_CEn doc_CEn pm_CEn cdv_CEn ct_CEn:qAi}{od_CEn an_CEn:Option Addr}{osl_CEn:Array (Option qAi)}{oc_CWo kV_CWo doc_CWo pm_CWo cdv_CWo ct_CWo:qAi}{od_CWo an_CWo:Option Addr}{osl_CWo:Array (Option qAi)}{oc_CTb kV_CTb doc_CTb pm_CTb cdv_CTb ct_CTb:qAi}{od_CTb an_CTb:Option Addr}{osl_CTb:Array (Option qAi)}{oc_NNt kV_NNt doc_NNt pm_NNt cdv_NNt ct_NNt:qAi}{od_NNt an_NNt:Option Addr}{osl_NNt:Array (Option qAi)}  (X:K.In h)(G:h.Ns qBe mg)
  (iT:qBp K qBe "isinstance"=some none)
  (hW:qBp K qBe "int"=some none)
  (nC:qBp K qBe "bool"=some none)
  (cO:qBp K qBe "range"=some none)
  (cG:qBp K qBe "len"=some none)
  (fK:qBp K qBe "list"=some none)
  (hX:qBp K qBe "sum"=some none)
  (pS:qBp K qBe "all"=some none)
  (pT:qBp K qBe "any"=some none)
  (iU:qBp K qBe "sorted"=some none)
  (j9:qBp K qBe "tuple"=some none)
  (wF:qBp K qBe "min"=some none)
  (nP:qBp K qBe "abs"=some none)
  (jE:qBp K qBe "enumerate"=some none)
  (pU:qBp K qBe "str"=some none)
  (nQ:qBp K qBe "max"=some none)
  (xS:qBp K qBe "ALONE"=some (some (.ref AL)))
  (lkAL:K.lookup AL=some ⟨.type "tuple",none,.seq #[.int 1 t_AL0,.int 2 t_AL1,.int 4 t_AL2,.int 8 t_AL3,.int 16 t_AL4,.int 32 t_AL5] n_AL,osl_AL⟩)
  (GO:qBp K qBe "LENGTHS"=some (some (.ref LN)))
  (lkLN:K.lookup LN=some ⟨.type "tuple",none,.seq #[.int 1 t_LN0,.int 2 t_LN1,.int 4 t_LN2,.int 8 t_LN3,.int 16 t_LN4,.int 32 t_LN5,.int 64 t_LN6] n_LN,osl_LN⟩)
  (we:qBp K qBe "WELL"=some (some (.int 64 tk_we)))
  (mr:qBp K qBe "MOST_RULES"=some (some (.int 12 tk_mr)))
  (mf:qBp K qBe "MOST_FIGURES"=some (some (.int 30 tk_mf)))
  (fg:qBp K qBe "FIGURES"=some (some (.str ("0123456789":Str) tk_fg)))
  (DD:qBp K qBe "Rule"=some (some (.ref RU)))
  (pgRU:qDj K RU Str.empty=true)
  (hdRU:qDl K RU=true)
  (poRU:qDo K RU=true)
  (saRU:qAe K (.ref RU) "__setattr__"=some (some (.builtin "object.__setattr__")))
  (caRU:qAe K (.ref RU) "__class__"=some (some (.builtin "object.__class__")))
  (moRU:qCn K RU (.type "object")=some true)
  (nmRU:qAe K (.ref RU) "many"=some none)
  (feRU:qAe K (.ref RU) "earn"=some (some (.ref fE)))
  (fhRU:qAe K (.ref RU) "hands"=some (some (.ref fH)))
  (frRU:qAe K (.ref RU) "reckon"=some (some (.ref rR)))
  (irRU:qDc K (.ref RU) (.ref RU)=some true)
  (mkRU:qDz K RU=true)
  (fiRU:qAe K (.ref RU) "__init__"=some (some (.ref iR)))
  (kkRU:qAu K (.ref RU)=true)
  (Nv:qBp K qBe "Own"=some (some (.ref OW)))
  (pgOW:qDj K OW Str.empty=true)
  (hdOW:qDl K OW=true)
  (poOW:qDo K OW=true)
  (saOW:qAe K (.ref OW) "__setattr__"=some (some (.builtin "object.__setattr__")))
  (caOW:qAe K (.ref OW) "__class__"=some (some (.builtin "object.__class__")))
  (moOW:qCn K OW (.type "object")=some true)
  (nmOW:qAe K (.ref OW) "many"=some none)
  (feOW:qAe K (.ref OW) "earn"=some (some (.ref fE)))
  (fhOW:qAe K (.ref OW) "hands"=some (some (.ref fH)))
  (frOW:qAe K (.ref OW) "reckon"=some (some (.ref rO)))
  (irOW:qDc K (.ref OW) (.ref RU)=some true)
  (mkOW:qDz K OW=true)
  (fiOW:qAe K (.ref OW) "__init__"=some (some (.ref iO)))
  (kkOW:qAu K (.ref OW)=true)
  (nf0OW:qAe K (.ref OW) "numbers"=some none)
  (Mp:qBp K qBe "Plain"=some (some (.ref PL)))
  (pgPL:qDj K PL Str.empty=true)
  (hdPL:qDl K PL=true)
  (poPL:qDo K PL=true)
  (saPL:qAe K (.ref PL) "__setattr__"=some (some (.builtin "object.__setattr__")))
  (caPL:qAe K (.ref PL) "__class__"=some (some (.builtin "object.__class__")))
  (moPL:qCn K PL (.type "object")=some true)
  (nmPL:qAe K (.ref PL) "many"=some none)
  (fePL:qAe K (.ref PL) "earn"=some (some (.ref fE)))
  (fhPL:qAe K (.ref PL) "hands"=some (some (.ref fH)))
  (frPL:qAe K (.ref PL) "reckon"=some (some (.ref rP)))
  (irPL:qDc K (.ref PL) (.ref RU)=some true)
  (mkPL:qDz K PL=true)
  (fiPL:qAe K (.ref PL) "__init__"=some (some (.ref iP)))
  (kkPL:qAu K (.ref PL)=true)
  (nf0PL:qAe K (.ref PL) "earnings"=some none)
  (Nw:qBp K qBe "Pairs"=some (some (.ref PA)))
  (pgPA:qDj K PA Str.empty=true)
  (hdPA:qDl K PA=true)
  (poPA:qDo K PA=true)
  (saPA:qAe K (.ref PA) "__setattr__"=some (some (.builtin "object.__setattr__")))
  (caPA:qAe K (.ref PA) "__class__"=some (some (.builtin "object.__class__")))
  (moPA:qCn K PA (.type "object")=some true)
  (nmPA:qAe K (.ref PA) "many"=some none)
  (fePA:qAe K (.ref PA) "earn"=some (some (.ref fE)))
  (fhPA:qAe K (.ref PA) "hands"=some (some (.ref fH)))
  (frPA:qAe K (.ref PA) "reckon"=some (some (.ref rA)))
  (irPA:qDc K (.ref PA) (.ref RU)=some true)
  (mkPA:qDz K PA=true)
  (fiPA:qAe K (.ref PA) "__init__"=some (some (.ref iA)))
  (kkPA:qAu K (.ref PA)=true)
  (nf0PA:qAe K (.ref PA) "pairs"=some none)
  (Nx:qBp K qBe "Votes"=some (some (.ref VO)))
  (pgVO:qDj K VO Str.empty=true)
  (hdVO:qDl K VO=true)
  (poVO:qDo K VO=true)
  (saVO:qAe K (.ref VO) "__setattr__"=some (some (.builtin "object.__setattr__")))
  (caVO:qAe K (.ref VO) "__class__"=some (some (.builtin "object.__class__")))
  (moVO:qCn K VO (.type "object")=some true)
  (nmVO:qAe K (.ref VO) "many"=some none)
  (feVO:qAe K (.ref VO) "earn"=some (some (.ref fE)))
  (fhVO:qAe K (.ref VO) "hands"=some (some (.ref fH)))
  (frVO:qAe K (.ref VO) "reckon"=some (some (.ref rV)))
  (irVO:qDc K (.ref VO) (.ref RU)=some true)
  (mkVO:qDz K VO=true)
  (fiVO:qAe K (.ref VO) "__init__"=some (some (.ref iV)))
  (kkVO:qAu K (.ref VO)=true)
  (nf0VO:qAe K (.ref VO) "quota"=some none)
  (nf1VO:qAe K (.ref VO) "prize"=some none)
  (nf2VO:qAe K (.ref VO) "weights"=some none)
  (Ny:qBp K qBe "Match"=some (some (.ref MA)))
  (pgMA:qDj K MA Str.empty=true)
  (hdMA:qDl K MA=true)
  (poMA:qDo K MA=true)
  (saMA:qAe K (.ref MA) "__setattr__"=some (some (.builtin "object.__setattr__")))
  (caMA:qAe K (.ref MA) "__class__"=some (some (.builtin "object.__class__")))
  (moMA:qCn K MA (.type "object")=some true)
  (nmMA:qAe K (.ref MA) "many"=some none)
  (feMA:qAe K (.ref MA) "earn"=some (some (.ref fE)))
  (fhMA:qAe K (.ref MA) "hands"=some (some (.ref fH)))
  (frMA:qAe K (.ref MA) "reckon"=some (some (.ref rM)))
  (irMA:qDc K (.ref MA) (.ref RU)=some true)
  (mkMA:qDz K MA=true)
  (fiMA:qAe K (.ref MA) "__init__"=some (some (.ref iM)))
  (kkMA:qAu K (.ref MA)=true)
  (nf0MA:qAe K (.ref MA) "pairs"=some none)
  (nf1MA:qAe K (.ref MA) "best"=some none)
  (Mq:qBp K qBe "Net"=some (some (.ref NE)))
  (pgNE:qDj K NE Str.empty=true)
  (hdNE:qDl K NE=true)
  (poNE:qDo K NE=true)
  (saNE:qAe K (.ref NE) "__setattr__"=some (some (.builtin "object.__setattr__")))
  (caNE:qAe K (.ref NE) "__class__"=some (some (.builtin "object.__class__")))
  (moNE:qCn K NE (.type "object")=some true)
  (nmNE:qAe K (.ref NE) "many"=some none)
  (feNE:qAe K (.ref NE) "earn"=some (some (.ref fE)))
  (fhNE:qAe K (.ref NE) "hands"=some (some (.ref fH)))
  (frNE:qAe K (.ref NE) "reckon"=some (some (.ref rN)))
  (irNE:qDc K (.ref NE) (.ref RU)=some true)
  (mkNE:qDz K NE=true)
  (fiNE:qAe K (.ref NE) "__init__"=some (some (.ref iN)))
  (kkNE:qAu K (.ref NE)=true)
  (nf0NE:qAe K (.ref NE) "costs"=some none)
  (nf1NE:qAe K (.ref NE) "ropes"=some none)
  (fflNE:qAe K (.ref NE) "least"=some (some (.ref fL)))
  (ffwRU:qAe K (.ref RU) "words"=some (some (.ref wR)))
  (ffwOW:qAe K (.ref OW) "words"=some (some (.ref wO)))
  (ffwPL:qAe K (.ref PL) "words"=some (some (.ref wP)))
  (ffwPA:qAe K (.ref PA) "words"=some (some (.ref wA)))
  (ffwVO:qAe K (.ref VO) "words"=some (some (.ref wV)))
  (ffwMA:qAe K (.ref MA) "words"=some (some (.ref wM)))
  (ffwNE:qAe K (.ref NE) "words"=some (some (.ref wN)))
  (Mr:qBp K qBe "Company"=some (some (.ref CO)))
  (pgCO:qDj K CO Str.empty=true)
  (hdCO:qDl K CO=true)
  (poCO:qDo K CO=true)
  (saCO:qAe K (.ref CO) "__setattr__"=some (some (.builtin "object.__setattr__")))
  (caCO:qAe K (.ref CO) "__class__"=some (some (.builtin "object.__class__")))
  (moCO:qCn K CO (.type "object")=some true)
  (nmCO:qAe K (.ref CO) "many"=some none)
  (nrCO:qAe K (.ref CO) "rules"=some none)
  (feCO:qAe K (.ref CO) "earn"=some (some (.ref cE)))
  (fhCO:qAe K (.ref CO) "hands"=some (some (.ref cH)))
  (ftCO:qAe K (.ref CO) "words"=some (some (.ref cW)))
  (irCO:qDc K (.ref CO) (.ref CO)=some true)
  (ftbCO:qAe K (.ref CO) "table"=some (some (.ref cT)))
  (mkCO:qDz K CO=true)
  (fiCO:qAe K (.ref CO) "__init__"=some (some (.ref iC)))
  (kkCO:qAu K (.ref CO)=true)
  (ffgNE:qAe K (.ref NE) "net"=some (some (.ref fN)))
  (lRI:K.lookup iR=some ⟨oc_RI,od_RI,.func (qBh "__init__" "Rule.__init__" (bJ LR) (bE LR) (aH LR) .none kV_RI doc_RI pm_RI an_RI cdv_RI ct_RI),osl_RI⟩)
  (cdRI:qBd K cdv_RI "Rule.__init__"=true)
  (kpRI:qAu K (.ref iR)=true)
  (fnRI:qBr K (.ref iR)=true)
  (lH:K.lookup fH=some ⟨oc_H,od_H,.func (qBh "hands" "Rule.hands" (bJ LS) (bE LS) (aH LS) .none kV_H doc_H pm_H an_H cdv_H ct_H),osl_H⟩)
  (cdH:qBd K cdv_H "Rule.hands"=true)
  (kpH:qAu K (.ref fH)=true)
  (fnH:qBr K (.ref fH)=true)
  (lE:K.lookup fE=some ⟨oc_E,od_E,.func (qBh "earn" "Rule.earn" (bJ Bu) (bE Bu) (aH Bu) .none kV_E doc_E pm_E an_E cdv_E ct_E),osl_E⟩)
  (cdE:qBd K cdv_E "Rule.earn"=true)
  (kpE:qAu K (.ref fE)=true)
  (fnE:qBr K (.ref fE)=true)
  (lRR:K.lookup rR=some ⟨oc_RR,od_RR,.func (qBh "reckon" "Rule.reckon" (bJ LU) (bE LU) (aH LU) .none kV_RR doc_RR pm_RR an_RR cdv_RR ct_RR),osl_RR⟩)
  (cdRR:qBd K cdv_RR "Rule.reckon"=true)
  (kpRR:qAu K (.ref rR)=true)
  (fnRR:qBr K (.ref rR)=true)
  (lRW:K.lookup wR=some ⟨oc_RW,od_RW,.func (qBh "words" "Rule.words" (bJ LV) (bE LV) (aH LV) .none kV_RW doc_RW pm_RW an_RW cdv_RW ct_RW),osl_RW⟩)
  (cdRW:qBd K cdv_RW "Rule.words"=true)
  (kpRW:qAu K (.ref wR)=true)
  (fnRW:qBr K (.ref wR)=true)
  (lOI:K.lookup iO=some ⟨oc_OI,od_OI,.func (qBh "__init__" "Own.__init__" (bJ LW) (bE LW) (aH LW) .none kV_OI doc_OI pm_OI an_OI cdv_OI ct_OI),osl_OI⟩)
  (cdOI:qBd K cdv_OI "Own.__init__"=true)
  (kpOI:qAu K (.ref iO)=true)
  (fnOI:qBr K (.ref iO)=true)
  (lOR:K.lookup rO=some ⟨oc_OR,od_OR,.func (qBh "reckon" "Own.reckon" (bJ LX) (bE LX) (aH LX) .none kV_OR doc_OR pm_OR an_OR cdv_OR ct_OR),osl_OR⟩)
  (cdOR:qBd K cdv_OR "Own.reckon"=true)
  (kpOR:qAu K (.ref rO)=true)
  (fnOR:qBr K (.ref rO)=true)
  (lOWo:K.lookup wO=some ⟨oc_OWo,od_OWo,.func (qBh "words" "Own.words" (bJ Bv) (bE Bv) (aH Bv) .none kV_OWo doc_OWo pm_OWo an_OWo cdv_OWo ct_OWo),osl_OWo⟩)
  (cdOWo:qBd K cdv_OWo "Own.words"=true)
  (kpOWo:qAu K (.ref wO)=true)
  (fnOWo:qBr K (.ref wO)=true)
  (lPI:K.lookup iP=some ⟨oc_PI,od_PI,.func (qBh "__init__" "Plain.__init__" (bJ LY) (bE LY) (aH LY) .none kV_PI doc_PI pm_PI an_PI cdv_PI ct_PI),osl_PI⟩)
  (cdPI:qBd K cdv_PI "Plain.__init__"=true)
  (kpPI:qAu K (.ref iP)=true)
  (fnPI:qBr K (.ref iP)=true)
  (lPR:K.lookup rP=some ⟨oc_PR,od_PR,.func (qBh "reckon" "Plain.reckon" (bJ LZ) (bE LZ) (aH LZ) .none kV_PR doc_PR pm_PR an_PR cdv_PR ct_PR),osl_PR⟩)
  (cdPR:qBd K cdv_PR "Plain.reckon"=true)
  (kpPR:qAu K (.ref rP)=true)
  (fnPR:qBr K (.ref rP)=true)
  (lPlW:K.lookup wP=some ⟨oc_PlW,od_PlW,.func (qBh "words" "Plain.words" (bJ Bw) (bE Bw) (aH Bw) .none kV_PlW doc_PlW pm_PlW an_PlW cdv_PlW ct_PlW),osl_PlW⟩)
  (cdPlW:qBd K cdv_PlW "Plain.words"=true)
  (kpPlW:qAu K (.ref wP)=true)
  (fnPlW:qBr K (.ref wP)=true)
  (lPaI:K.lookup iA=some ⟨oc_PaI,od_PaI,.func (qBh "__init__" "Pairs.__init__" (bJ Bx) (bE Bx) (aH Bx) .none kV_PaI doc_PaI pm_PaI an_PaI cdv_PaI ct_PaI),osl_PaI⟩)
  (cdPaI:qBd K cdv_PaI "Pairs.__init__"=true)
  (kpPaI:qAu K (.ref iA)=true)
  (fnPaI:qBr K (.ref iA)=true)
  (lPaR:K.lookup rA=some ⟨oc_PaR,od_PaR,.func (qBh "reckon" "Pairs.reckon" (bJ By) (bE By) (aH By) .none kV_PaR doc_PaR pm_PaR an_PaR cdv_PaR ct_PaR),osl_PaR⟩)
  (cdPaR:qBd K cdv_PaR "Pairs.reckon"=true)
  (kpPaR:qAu K (.ref rA)=true)
  (fnPaR:qBr K (.ref rA)=true)
  (lPaW:K.lookup wA=some ⟨oc_PaW,od_PaW,.func (qBh "words" "Pairs.words" (bJ Bz) (bE Bz) (aH Bz) .none kV_PaW doc_PaW pm_PaW an_PaW cdv_PaW ct_PaW),osl_PaW⟩)
  (cdPaW:qBd K cdv_PaW "Pairs.words"=true)
  (kpPaW:qAu K (.ref wA)=true)
  (fnPaW:qBr K (.ref wA)=true)
  (lVI:K.lookup iV=some ⟨oc_VI,od_VI,.func (qBh "__init__" "Votes.__init__" (bJ Ma) (bE Ma) (aH Ma) .none kV_VI doc_VI pm_VI an_VI cdv_VI ct_VI),osl_VI⟩)
  (cdVI:qBd K cdv_VI "Votes.__init__"=true)
  (kpVI:qAu K (.ref iV)=true)
  (fnVI:qBr K (.ref iV)=true)
  (lVR:K.lookup rV=some ⟨oc_VR,od_VR,.func (qBh "reckon" "Votes.reckon" (bJ Mb) (bE Mb) (aH Mb) .none kV_VR doc_VR pm_VR an_VR cdv_VR ct_VR),osl_VR⟩)
  (cdVR:qBd K cdv_VR "Votes.reckon"=true)
  (kpVR:qAu K (.ref rV)=true)
  (fnVR:qBr K (.ref rV)=true)
  (lVW:K.lookup wV=some ⟨oc_VW,od_VW,.func (qBh "words" "Votes.words" (bJ Mc) (bE Mc) (aH Mc) .none kV_VW doc_VW pm_VW an_VW cdv_VW ct_VW),osl_VW⟩)
  (cdVW:qBd K cdv_VW "Votes.words"=true)
  (kpVW:qAu K (.ref wV)=true)
  (fnVW:qBr K (.ref wV)=true)
  (lMI:K.lookup iM=some ⟨oc_MI,od_MI,.func (qBh "__init__" "Match.__init__" (bJ Me) (bE Me) (aH Me) .none kV_MI doc_MI pm_MI an_MI cdv_MI ct_MI),osl_MI⟩)
  (cdMI:qBd K cdv_MI "Match.__init__"=true)
  (kpMI:qAu K (.ref iM)=true)
  (fnMI:qBr K (.ref iM)=true)
  (lMR:K.lookup rM=some ⟨oc_MR,od_MR,.func (qBh "reckon" "Match.reckon" (bJ Mf) (bE Mf) (aH Mf) .none kV_MR doc_MR pm_MR an_MR cdv_MR ct_MR),osl_MR⟩)
  (cdMR:qBd K cdv_MR "Match.reckon"=true)
  (kpMR:qAu K (.ref rM)=true)
  (fnMR:qBr K (.ref rM)=true)
  (lMW:K.lookup wM=some ⟨oc_MW,od_MW,.func (qBh "words" "Match.words" (bJ Mg) (bE Mg) (aH Mg) .none kV_MW doc_MW pm_MW an_MW cdv_MW ct_MW),osl_MW⟩)
  (cdMW:qBd K cdv_MW "Match.words"=true)
  (kpMW:qAu K (.ref wM)=true)
  (fnMW:qBr K (.ref wM)=true)
  (lNI:K.lookup iN=some ⟨oc_NI,od_NI,.func (qBh "__init__" "Net.__init__" (bJ Mh) (bE Mh) (aH Mh) .none kV_NI doc_NI pm_NI an_NI cdv_NI ct_NI),osl_NI⟩)
  (cdNI:qBd K cdv_NI "Net.__init__"=true)
  (kpNI:qAu K (.ref iN)=true)
  (fnNI:qBr K (.ref iN)=true)
  (lNLs:K.lookup fL=some ⟨oc_NLs,od_NLs,.func (qBh "least" "Net.least" (bJ BA) (bE BA) (aH BA) .none kV_NLs doc_NLs pm_NLs an_NLs cdv_NLs ct_NLs),osl_NLs⟩)
  (cdNLs:qBd K cdv_NLs "Net.least"=true)
  (kpNLs:qAu K (.ref fL)=true)
  (fnNLs:qBr K (.ref fL)=true)
  (lNRk:K.lookup rN=some ⟨oc_NRk,od_NRk,.func (qBh "reckon" "Net.reckon" (bJ BB) (bE BB) (aH BB) .none kV_NRk doc_NRk pm_NRk an_NRk cdv_NRk ct_NRk),osl_NRk⟩)
  (cdNRk:qBd K cdv_NRk "Net.reckon"=true)
  (kpNRk:qAu K (.ref rN)=true)
  (fnNRk:qBr K (.ref rN)=true)
  (lNW:K.lookup wN=some ⟨oc_NW,od_NW,.func (qBh "words" "Net.words" (bJ Mi) (bE Mi) (aH Mi) .none kV_NW doc_NW pm_NW an_NW cdv_NW ct_NW),osl_NW⟩)
  (cdNW:qBd K cdv_NW "Net.words"=true)
  (kpNW:qAu K (.ref wN)=true)
  (fnNW:qBr K (.ref wN)=true)
  (lCI:K.lookup iC=some ⟨oc_CI,od_CI,.func (qBh "__init__" "Company.__init__" (bJ Mj) (bE Mj) (aH Mj) .none kV_CI doc_CI pm_CI an_CI cdv_CI ct_CI),osl_CI⟩)
  (cdCI:qBd K cdv_CI "Company.__init__"=true)
  (kpCI:qAu K (.ref iC)=true)
  (fnCI:qBr K (.ref iC)=true)
  (lCHs:K.lookup cH=some ⟨oc_CHs,od_CHs,.func (qBh "hands" "Company.hands" (bJ Ml) (bE Ml) (aH Ml) .none kV_CHs doc_CHs pm_CHs an_CHs cdv_CHs ct_CHs),osl_CHs⟩)
  (cdCHs:qBd K cdv_CHs "Company.hands"=true)
  (kpCHs:qAu K (.ref cH)=true)
  (fnCHs:qBr K (.ref cH)=true)
  (lCEn:K.lookup cE=some ⟨oc_CEn,od_CEn,.func (qBh "earn" "Company.earn" (bJ Mm) (bE Mm) (aH Mm) .none kV_CEn doc_CEn pm_CEn an_CEn cdv_CEn ct_CEn),osl_CEn⟩)
  (cdCEn:qBd K cdv_CEn "Company.earn"=true)
  (kpCEn:qAu K (.ref cE)=true)
  (fnCEn:qBr K (.ref cE)=true)
  (lCWo:K.lookup cW=some ⟨oc_CWo,od_CWo,.func (qBh "words" "Company.words" (bJ Mn) (bE Mn) (aH Mn) .none kV_CWo doc_CWo pm_CWo an_CWo cdv_CWo ct_CWo),osl_CWo⟩)
  (cdCWo:qBd K cdv_CWo "Company.words"=true)
  (kpCWo:qAu K (.ref cW)=true)
  (fnCWo:qBr K (.ref cW)=true)
  (lCTb:K.lookup cT=some ⟨oc_CTb,od_CTb,.func (qBh "table" "Company.table" (bJ Mo) (bE Mo) (aH Mo) .none kV_CTb doc_CTb pm_CTb an_CTb cdv_CTb ct_CTb),osl_CTb⟩)
  (cdCTb:qBd K cdv_CTb "Company.table"=true)
  (kpCTb:qAu K (.ref cT)=true)
  (fnCTb:qBr K (.ref cT)=true)
  (lNNt:K.lookup fN=some ⟨oc_NNt,od_NNt,.func (qBh "net" "Net.net" (bJ BC) (bE BC) (aH BC) .none kV_NNt doc_NNt pm_NNt an_NNt cdv_NNt ct_NNt),osl_NNt⟩)
  (cdNNt:qBd K cdv_NNt "Net.net"=true)
  (kpNNt:qAu K (.ref fN)=true)
  (fnNNt:qBr K (.ref fN)=true)
  (cgcRI:qEc K (.ref RU) "__getattribute__"=some (some (.builtin "type.__getattribute__")))
  (crcRI:qLv K RU (.type "type")=true)
  (cfcRI:qLw K (.ref RU) (.type "type") "__init__"=some (.val (.ref iR)))
  (PD:qBp K qBe "ShareError"=some (some (.ref SE)))
  (NA:qBp K qBe "NoGroup"=some (some (.ref NG)))
  (BE:qBp K qBe "NoRule"=some (some (.ref NL)))
  (NC:qBp K qBe "NoTable"=some (some (.ref NT)))
  (c6:qEc K (.builtin "object.__class__") "__get__"=some (some (.builtin "getset_descriptor.__get__")))
  (c7:qFj K (.builtin "object.__class__")=some true)
  (SE2:qHs K (.ref SE)=some (.type "type"))
  (SE3:qAe K (.ref SE) "__getattribute__"=some (some (.builtin "BaseException.__getattribute__")))
  (SE4:qAe K (.ref SE) "__getattr__"=some none)
  (SE5:qAe K (.ref SE) "__class__"=some (some (.builtin "object.__class__")))
  (SE8:qCn K SE (.type "object")=some true)
  (SE9:qCn K SE (.type "BaseException")=some true)
  (BF:qEr K NL IA "ValueError.__new__"=true)
  (ND:qEr K NT IA "ValueError.__new__"=true)
  (NF:qEr K NG IA "ValueError.__new__"=true) :
  ∃AL LN RU OW PL PA VO MA NE fE fH rR rO rP rA rV rM rN iR iO iP iA iV iM iN fL wR wO wP wA wV wM wN CO iC cH cE cW cT fN SE NG NL NT,T K mg AL LN RU OW PL PA VO MA NE fE fH rR rO rP rA rV rM rN iR iO iP iA iV iM iN fL wR wO wP wA wV wM wN CO iC cH cE cW cT fN SE NG NL NT :=
 ⟨AL,LN,RU,OW,PL,PA,VO,MA,NE,fE,fH,rR,rO,rP,rA,rV,rM,rN,iR,iO,iP,iA,iV,iM,iN,fL,wR,wO,wP,wA,wV,wM,wN,CO,iC,cH,cE,cW,cT,fN,SE,NG,NL,NT,qCe X G iT,qCe X G hW,qCe X G nC,qCe X G cO,qCe X G cG,qCe X G fK,qCe X G hX,qCe X G pS,qCe X G pT,qCe X G iU,qCe X G j9,qCe X G wF,qCe X G nP,qCe X G jE,qCe X G pU,qCe X G nQ,qCo X G xS,fun _=>.inr ⟨_,_,_,lkAL,rfl,rfl,by show 6<=qAg;decide,.cons ⟨_,rfl⟩ (.cons ⟨_,rfl⟩ (.cons ⟨_,rfl⟩ (.cons ⟨_,rfl⟩ (.cons ⟨_,rfl⟩ (.cons ⟨_,rfl⟩ .nil)))))⟩,qCo X G GO,fun _=>.inr ⟨_,_,_,lkLN,rfl,rfl,by show 7<=qAg;decide,.cons ⟨_,rfl⟩ (.cons ⟨_,rfl⟩ (.cons ⟨_,rfl⟩ (.cons ⟨_,rfl⟩ (.cons ⟨_,rfl⟩ (.cons ⟨_,rfl⟩ (.cons ⟨_,rfl⟩ .nil))))))⟩,⟨_,lkLN,rfl,rfl⟩,⟨tk_we,qCo X G we⟩,⟨tk_mr,qCo X G mr⟩,⟨tk_mf,qCo X G mf⟩,⟨tk_fg,qCo X G fg⟩,qCo X G DD,⟨⟨⟨pgRU,hdRU,poRU,saRU⟩,caRU,c6,c7,moRU⟩,nmRU,⟨feRU,fnE,kpE⟩,⟨fhRU,fnH,kpH⟩,⟨frRU,fnRR,kpRR⟩,irRU⟩,⟨mkRU,fiRU,fnRI,kkRU⟩,qCo X G Nv,⟨⟨⟨pgOW,hdOW,poOW,saOW⟩,caOW,c6,c7,moOW⟩,nmOW,⟨feOW,fnE,kpE⟩,⟨fhOW,fnH,kpH⟩,⟨frOW,fnOR,kpOR⟩,irOW⟩,⟨mkOW,fiOW,fnOI,kkOW⟩,nf0OW,qCo X G Mp,⟨⟨⟨pgPL,hdPL,poPL,saPL⟩,caPL,c6,c7,moPL⟩,nmPL,⟨fePL,fnE,kpE⟩,⟨fhPL,fnH,kpH⟩,⟨frPL,fnPR,kpPR⟩,irPL⟩,⟨mkPL,fiPL,fnPI,kkPL⟩,nf0PL,qCo X G Nw,⟨⟨⟨pgPA,hdPA,poPA,saPA⟩,caPA,c6,c7,moPA⟩,nmPA,⟨fePA,fnE,kpE⟩,⟨fhPA,fnH,kpH⟩,⟨frPA,fnPaR,kpPaR⟩,irPA⟩,⟨mkPA,fiPA,fnPaI,kkPA⟩,nf0PA,qCo X G Nx,⟨⟨⟨pgVO,hdVO,poVO,saVO⟩,caVO,c6,c7,moVO⟩,nmVO,⟨feVO,fnE,kpE⟩,⟨fhVO,fnH,kpH⟩,⟨frVO,fnVR,kpVR⟩,irVO⟩,⟨mkVO,fiVO,fnVI,kkVO⟩,nf0VO,nf1VO,nf2VO,qCo X G Ny,⟨⟨⟨pgMA,hdMA,poMA,saMA⟩,caMA,c6,c7,moMA⟩,nmMA,⟨feMA,fnE,kpE⟩,⟨fhMA,fnH,kpH⟩,⟨frMA,fnMR,kpMR⟩,irMA⟩,⟨mkMA,fiMA,fnMI,kkMA⟩,nf0MA,nf1MA,qCo X G Mq,⟨⟨⟨pgNE,hdNE,poNE,saNE⟩,caNE,c6,c7,moNE⟩,nmNE,⟨feNE,fnE,kpE⟩,⟨fhNE,fnH,kpH⟩,⟨frNE,fnNRk,kpNRk⟩,irNE⟩,⟨mkNE,fiNE,fnNI,kkNE⟩,nf0NE,nf1NE,⟨fflNE,fnNLs,kpNLs⟩,⟨ffwRU,fnRW,kpRW⟩,⟨ffwOW,fnOWo,kpOWo⟩,⟨ffwPL,fnPlW,kpPlW⟩,⟨ffwPA,fnPaW,kpPaW⟩,⟨ffwVO,fnVW,kpVW⟩,⟨ffwMA,fnMW,kpMW⟩,⟨ffwNE,fnNW,kpNW⟩,qCo X G Mr,⟨⟨⟨pgCO,hdCO,poCO,saCO⟩,caCO,c6,c7,moCO⟩,nmCO,nrCO,⟨feCO,fnCEn,kpCEn⟩,⟨fhCO,fnCHs,kpCHs⟩,⟨ftCO,fnCWo,kpCWo⟩,irCO,⟨ftbCO,fnCTb,kpCTb⟩⟩,⟨mkCO,fiCO,fnCI,kkCO⟩,⟨ffgNE,fnNNt,kpNNt⟩,cY lRI cdRI kpRI (fun _ _ _ _ _ _=>L2.uu2 fun _ _=>rfl),cY lH cdH kpH (fun _ _ _ _ _ _=>L2.uu1 fun _=>rfl),cY lE cdE kpE (fun _ _ _ _ _ _=>L2.uu2 fun _ _=>rfl),cY lRR cdRR kpRR (fun _ _ _ _ _ _=>L2.uu2 fun _ _=>rfl),cY lRW cdRW kpRW (fun _ _ _ _ _ _=>L2.uu1 fun _=>rfl),cY lOI cdOI kpOI (fun _ _ _ _ _ _=>L2.uu2 fun _ _=>rfl),cY lOR cdOR kpOR (fun _ _ _ _ _ _=>L2.uu2 fun _ _=>rfl),cY lOWo cdOWo kpOWo (fun _ _ _ _ _ _=>L2.uu1 fun _=>rfl),cY lPI cdPI kpPI (fun _ _ _ _ _ _=>L2.uu2 fun _ _=>rfl),cY lPR cdPR kpPR (fun _ _ _ _ _ _=>L2.uu2 fun _ _=>rfl),cY lPlW cdPlW kpPlW (fun _ _ _ _ _ _=>L2.uu1 fun _=>rfl),cY lPaI cdPaI kpPaI (fun _ _ _ _ _ _=>L2.uu3 fun _ _ _=>rfl),cY lPaR cdPaR kpPaR (fun _ _ _ _ _ _=>L2.uu2 fun _ _=>rfl),cY lPaW cdPaW kpPaW (fun _ _ _ _ _ _=>L2.uu1 fun _=>rfl),cY lVI cdVI kpVI (fun _ _ _ _ _ _=>L2.uu4 fun _ _ _ _=>rfl),cY lVR cdVR kpVR (fun _ _ _ _ _ _=>L2.uu2 fun _ _=>rfl),cY lVW cdVW kpVW (fun _ _ _ _ _ _=>L2.uu1 fun _=>rfl),cY lMI cdMI kpMI (fun _ _ _ _ _ _=>L2.uu3 fun _ _ _=>rfl),cY lMR cdMR kpMR (fun _ _ _ _ _ _=>L2.uu2 fun _ _=>rfl),cY lMW cdMW kpMW (fun _ _ _ _ _ _=>L2.uu1 fun _=>rfl),cY lNI cdNI kpNI (fun _ _ _ _ _ _=>L2.uu3 fun _ _ _=>rfl),cY lNLs cdNLs kpNLs (fun _ _ _ _ _ _=>L2.uu2 fun _ _=>rfl),cY lNRk cdNRk kpNRk (fun _ _ _ _ _ _=>L2.uu2 fun _ _=>rfl),cY lNW cdNW kpNW (fun _ _ _ _ _ _=>L2.uu1 fun _=>rfl),cY lCI cdCI kpCI (fun _ _ _ _ _ _=>L2.uu3 fun _ _ _=>rfl),cY lCHs cdCHs kpCHs (fun _ _ _ _ _ _=>L2.uu1 fun _=>rfl),cY lCEn cdCEn kpCEn (fun _ _ _ _ _ _=>L2.uu2 fun _ _=>rfl),cY lCWo cdCWo kpCWo (fun _ _ _ _ _ _=>L2.uu1 fun _=>rfl),cY lCTb cdCTb kpCTb (fun _ _ _ _ _ _=>L2.uu1 fun _=>rfl),cY lNNt cdNNt kpNNt (fun _ _ _ _ _ _=>L2.uu2 fun _ _=>rfl),⟨cgcRI,crcRI,cfcRI,kpRI⟩,qCo X G PD,qCo X G NA,qCo X G BE,qCo X G NC,ID SE2 SE3 SE4 SE5 c6 c7 SE8 SE9,BF,ND,NF⟩
theorem walk{l:qLx}{q:qBl}{loose:List Str}{XP:(Str->Option qAi)->Heap->Prop}{YP:qCr->Heap->Prop}{d:DefRec}{K:Params->qAb}(hn:l.most=some 63)(hdf:d.params.defaults=[])
  (hY:∀(w:qCr) (h:Heap),YP w h->(K w.params).In h)
  (F:∀(w:qCr) (mg:Str->Option qAi) (fa:Addr) (h:Heap),(K w.params).In h->h.Ns qBe mg->mg d.name=some (.ref fa) ->
   ∃fd:qCi,(∀(s:qAp) (u:qAi),qMj s fd ⟨[u],[]⟩ [("_law_script",u)])/\∀base:Heap,(K w.params).In base->base.Ns qBe mg->gY l.prog w (K w.params) mg base cP 12 fa fd ["_law_script"] (AD (K w.params))) :
  qMo q loose XP YP l.row.toRowW d [] (fun f vs=>PySem.call f vs) :=
 L2.EZ (n:=63) (k:=12) (x:="_law_script") (CX:=fun _=>cP) (sp:=fun w=>AD (K w.params)) hn #[1] hdf ⟨rfl,by decide,by decide⟩ hY F (fun _ _ a ns hl _ hS=>⟨a,ns,rfl,hS,hl,fun _=>rfl⟩) fun _ _ _ _ _ z=>z
theorem LK{P:qBl}{w:qCr}{K:qAb}{mg:Str->Option qAi}{fa:Addr}(hfa:mg "law"=some (.ref fa))(hT:∃AL LN RU OW PL PA VO MA NE fE fH rR rO rP rA rV rM rN iR iO iP iA iV iM iN fL wR wO wP wA wV wM wN CO iC cH cE cW cT fN SE NG NL NT,T K mg AL LN RU OW PL PA VO MA NE fE fH rR rO rP rA rV rM rN iR iO iP iA iV iM iN fL wR wO wP wA wV wM wN CO iC cH cE cW cT fN SE NG NL NT)
  (t_sNum:∃f fd,Tx K mg "is_number" IZ ["thing"] f fd)
  (t_sWith:∃f fd,Tx K mg "is_number_within" DC ["thing","least","most"] f fd)
  (t_sChM:∃f fd,Tx K mg "check_many" Ja ["many"] f fd)
  (t_sWC:∃f fd,Tx K mg "whole_company" Qx ["many"] f fd)
  (t_sChk:∃f fd,Tx K mg "check_group" Jb ["group","many"] f fd)
  (t_sHnd:∃f fd,Tx K mg "hands_of" Jc ["group"] f fd)
  (t_sIsT:∃f fd,Tx K mg "is_table" Jd ["thing"] f fd)
  (t_sHin:∃f fd,Tx K mg "hands_in" Je ["table"] f fd)
  (t_sCkN:∃f fd,Tx K mg "check_numbers" Jf ["things"] f fd)
  (t_sCkP:∃f fd,Tx K mg "check_pair" Jg ["many","pair"] f fd)
  (t_sSrt:∃f fd,Tx K mg "sorted_pairs" Jh ["many","pairs"] f fd)
  (t_sHB:∃f fd,Tx K mg "has_both" Qy ["group","one","other"] f fd)
  (t_sSoH:∃f fd,Tx K mg "sum_of_hands" Ji ["numbers","group"] f fd)
  (t_sNWo:∃f fd,Tx K mg "number_words" Jj ["numbers"] f fd)
  (t_sPWo:∃f fd,Tx K mg "pair_words" Jk ["pairs"] f fd)
  (t_sBG:∃f fd,Tx K mg "best_of_group" Qz ["best","pairs","group"] f fd)
  (t_sBP:∃f fd,Tx K mg "best_pairings" QA ["many","pairs"] f fd)
  (t_sCkC:∃f fd,Tx K mg "check_costs" Jl ["costs"] f fd)
  (t_sCst:∃f fd,Tx K mg "cost_of" Jm ["rope"] f fd)
  (t_sEnd:∃f fd,Tx K mg "ends_of" Jn ["rope"] f fd)
  (t_sJon:∃f fd,Tx K mg "joins_on" Jo ["rope","joined","ground"] f fd)
  (t_sLNt:∃f fd,Tx K mg "least_net" Jp ["ropes","group"] f fd)
  (t_sNOf:∃f fd,Tx K mg "number_of" Jq ["word"] f fd)
  (t_sNsO:∃f fd,Tx K mg "numbers_of" Jr ["words"] f fd)
  (t_sPOf:∃f fd,Tx K mg "pair_of" Js ["word"] f fd)
  (t_sPsO:∃f fd,Tx K mg "pairs_of" Jt ["words"] f fd)
  (t_sROf:∃f fd,Tx K mg "rule_of" Ju ["many","words"] f fd)
  (t_sMOf:∃f fd,Tx K mg "many_of" Jv ["part"] f fd)
  (t_sRea:∃f fd,Tx K mg "read" Jw ["text"] f fd)
  (t_sSho:∃f fd,Tx K mg "shown" Jx ["table"] f fd)
  (t_sWho:∃f fd,Tx K mg "_law_whole" Jy ["_law_found"] f fd)
  (t_sDrw:∃f fd,Tx K mg "_law_draws" Jz ["_law_script"] f fd)
  (t_sCel:∃f fd,Tx K mg "_law_cell" JA ["_law_draws_here","_law_k"] f fd)
  (t_sNb:∃f fd,Tx K mg "_law_number" QB ["_law_cell_here","_law_bound"] f fd)
  (t_sLRu:∃f fd,Tx K mg "_law_rule" JB ["_law_draws_here","_law_at","_law_many","_law_bound"] f fd)
  (t_sLRs:∃f fd,Tx K mg "_law_rules" JC ["_law_draws_here","_law_many","_law_special"] f fd)
  (t_sPrt:∃f fd,Tx K mg "_law_part" JD ["_law_head","_law_numbers","_law_pairs"] f fd)
  (t_sLEa:∃f fd,Tx K mg "_law_earned" JE ["_law_row","_law_group"] f fd)
  (t_sMtd:∃f fd,Tx K mg "_law_matched" JF ["_law_sums","_law_pairs"] f fd)
  (t_sJnd:∃f fd,Tx K mg "_law_joined" JG ["_law_found","_law_ropes"] f fd)
  (t_sChp:∃f fd,Tx K mg "_law_cheapest" JH ["_law_found","_law_group","_law_ropes"] f fd)
  (t_sNtd:∃f fd,Tx K mg "_law_netted" JJ ["_law_sums","_law_row","_law_many"] f fd)
  (t_sLft:∃f fd,Tx K mg "_law_left" JK ["_law_sums","_law_some","_law_many"] f fd)
  (t_sLaw:∃f fd,Tx K mg "law" JL ["_law_script"] f fd)
  : ∃fd:qCi,(∀(s:qAp) (u:qAi),qMj s fd ⟨[u],[]⟩ [("_law_script",u)])/\∀base:Heap,K.In base->base.Ns qBe mg->gY P w K mg base cP 12 fa fd ["_law_script"] (AD K):=by
 obtain⟨AL,LN,RU,OW,PL,PA,VO,MA,NE,fE,fH,rR,rO,rP,rA,rV,rM,rN,iR,iO,iP,iA,iV,iM,iN,fL,wR,wO,wP,wA,wV,wM,wN,CO,iC,cH,cE,cW,cT,fN,SE,NG,NL,NT,T⟩:=hT;obtain⟨f_sNum,fd_sNum,t_sNum⟩:=t_sNum;obtain⟨f_sWith,fd_sWith,t_sWith⟩:=t_sWith;obtain⟨f_sChM,fd_sChM,t_sChM⟩:=t_sChM;obtain⟨f_sWC,fd_sWC,t_sWC⟩:=t_sWC;obtain⟨f_sChk,fd_sChk,t_sChk⟩:=t_sChk;obtain⟨f_sHnd,fd_sHnd,t_sHnd⟩:=t_sHnd;obtain⟨f_sIsT,fd_sIsT,t_sIsT⟩:=t_sIsT;obtain⟨f_sHin,fd_sHin,t_sHin⟩:=t_sHin;obtain⟨f_sCkN,fd_sCkN,t_sCkN⟩:=t_sCkN;obtain⟨f_sCkP,fd_sCkP,t_sCkP⟩:=t_sCkP;obtain⟨f_sSrt,fd_sSrt,t_sSrt⟩:=t_sSrt;obtain⟨f_sHB,fd_sHB,t_sHB⟩:=t_sHB;obtain⟨f_sSoH,fd_sSoH,t_sSoH⟩:=t_sSoH;obtain⟨f_sNWo,fd_sNWo,t_sNWo⟩:=t_sNWo;obtain⟨f_sPWo,fd_sPWo,t_sPWo⟩:=t_sPWo;obtain⟨f_sBG,fd_sBG,t_sBG⟩:=t_sBG;obtain⟨f_sBP,fd_sBP,t_sBP⟩:=t_sBP;obtain⟨f_sCkC,fd_sCkC,t_sCkC⟩:=t_sCkC;obtain⟨f_sCst,fd_sCst,t_sCst⟩:=t_sCst;obtain⟨f_sEnd,fd_sEnd,t_sEnd⟩:=t_sEnd;obtain⟨f_sJon,fd_sJon,t_sJon⟩:=t_sJon;obtain⟨f_sLNt,fd_sLNt,t_sLNt⟩:=t_sLNt;obtain⟨f_sNOf,fd_sNOf,t_sNOf⟩:=t_sNOf;obtain⟨f_sNsO,fd_sNsO,t_sNsO⟩:=t_sNsO;obtain⟨f_sPOf,fd_sPOf,t_sPOf⟩:=t_sPOf;obtain⟨f_sPsO,fd_sPsO,t_sPsO⟩:=t_sPsO;obtain⟨f_sROf,fd_sROf,t_sROf⟩:=t_sROf;obtain⟨f_sMOf,fd_sMOf,t_sMOf⟩:=t_sMOf;obtain⟨f_sRea,fd_sRea,t_sRea⟩:=t_sRea;obtain⟨f_sSho,fd_sSho,t_sSho⟩:=t_sSho;obtain⟨f_sWho,fd_sWho,t_sWho⟩:=t_sWho;obtain⟨f_sDrw,fd_sDrw,t_sDrw⟩:=t_sDrw;obtain⟨f_sCel,fd_sCel,t_sCel⟩:=t_sCel;obtain⟨f_sNb,fd_sNb,t_sNb⟩:=t_sNb;obtain⟨f_sLRu,fd_sLRu,t_sLRu⟩:=t_sLRu;obtain⟨f_sLRs,fd_sLRs,t_sLRs⟩:=t_sLRs;obtain⟨f_sPrt,fd_sPrt,t_sPrt⟩:=t_sPrt;obtain⟨f_sLEa,fd_sLEa,t_sLEa⟩:=t_sLEa;obtain⟨f_sMtd,fd_sMtd,t_sMtd⟩:=t_sMtd;obtain⟨f_sJnd,fd_sJnd,t_sJnd⟩:=t_sJnd;obtain⟨f_sChp,fd_sChp,t_sChp⟩:=t_sChp;obtain⟨f_sNtd,fd_sNtd,t_sNtd⟩:=t_sNtd;obtain⟨f_sLft,fd_sLft,t_sLft⟩:=t_sLft;obtain⟨f_sLaw,fd_sLaw,t_sLaw⟩:=t_sLaw;have e:=hfa.symm.trans t_sLaw.at_;cases e;refine⟨fd_sLaw,fun s u=>.of_eq (t_sLaw.bd [u] rfl),fun base _ _=>?_⟩;obtain⟨m1,x1⟩:=T.SD;obtain⟨m2,x2⟩:=T.xH;obtain⟨m3,x3⟩:=T.xE;obtain⟨m4,x4⟩:=T.SF;obtain⟨m5,x5⟩:=T.SI;obtain⟨m6,x6⟩:=T.SJ;obtain⟨m7,x7⟩:=T.SK;obtain⟨m8,x8⟩:=T.SM;obtain⟨m9,x9⟩:=T.QK;obtain⟨m10,x10⟩:=T.QL;obtain⟨m11,x11⟩:=T.SN;obtain⟨m12,x12⟩:=T.SO;obtain⟨m13,x13⟩:=T.SR;obtain⟨m14,x14⟩:=T.SS;obtain⟨m15,x15⟩:=T.SV;obtain⟨m16,x16⟩:=T.QN;obtain⟨m17,x17⟩:=T.QO;obtain⟨n1,y1⟩:=T.SH;obtain⟨n2,y2⟩:=T.QI;obtain⟨n3,y3⟩:=T.QJ;obtain⟨n4,y4⟩:=T.QM;obtain⟨n5,y5⟩:=T.SQ;obtain⟨n6,y6⟩:=T.SU;obtain⟨n7,y7⟩:=T.SW;obtain⟨c1',z1⟩:=T.SX;obtain⟨c2',z2⟩:=T.QP;obtain⟨c3',z3⟩:=T.QQ;obtain⟨c4',z4⟩:=T.QR;obtain⟨c5',z5⟩:=T.QS;obtain⟨c6',z6⟩:=T.QT;have d0:=JS (P:=P) (w:=w) (base:=base) t_sNum T;have d1:=FI (P:=P) (w:=w) (base:=base) t_sWith d0;have d2:=JV t_sChM T d1;have d3:=NN (P:=P) (w:=w) (base:=base) t_sWC T;have d4:=JW t_sChk T d1 d3;have d5:=JX t_sHnd T d4;have d6:=JZ t_sHin T (JY t_sIsT T d0);have d7:=Ka t_sCkN T d0;have d8:=Kf t_sSoH T d5;have d9:=Kc t_sSrt T (Kb t_sCkP T d7);have d10:=NX (P:=P) (w:=w) (base:=base) t_sHB T;have d11:=KN (P:=P) (w:=w) (base:=base) t_sNWo T;have d12:=KO (P:=P) (w:=w) (base:=base) t_sPWo T;have eRI:=NZ x1 T d2;have eH:=Oa (P:=P) (w:=w) (mg:=mg) (base:=base) x2;have eE:=Kh x3 T d4;have eMI:=Ov x13 T eRI d9 (Ou t_sBP T d3 (Oq t_sBG T d5 d10));have c1:=Kv (P:=P) (w:=w) (base:=base) t_sCst T;have c2:=Kx (P:=P) (w:=w) (base:=base) t_sEnd T;have c4:=KC t_sLNt T (Kz t_sJon T c2) c2 c1;have eNL:=KI x16 T c4;have Z:=ZR.mk (fE:=fE) (fH:=fH) (CO:=CO) (iC:=iC) (cH:=cH) (cE:=cE) (cW:=cW) (cT:=cT) (fN:=fN) (AL:=AL) (LN:=LN) (SE:=SE) (NG:=NG) (RU:=RU) (fL:=fL) eRI (Od x5 T eRI d7) (Of x7 T eRI d6) (Km x9 T eRI d9) (Oj x11 T eRI d7) eMI (OC x15 T eRI (KD t_sCkC T d7) d9 c1)
  (Ob (P:=P) (w:=w) (mg:=mg) (base:=base) x4) (Oe x6 T d8) (Og (P:=P) (w:=w) (mg:=mg) (base:=base) x8 T) (Kn x10 T d10) (Ol x12 T d8) (Ow (P:=P) (w:=w) (mg:=mg) (base:=base) x14 T) (KJ x17 T eNL c1)
  (OH (P:=P) (w:=w) (mg:=mg) (base:=base) y1) (KQ y2 T d11) (KS y3 T d11) (KU y4 T d12) (OK y5 T d11) (ON y6 T d12) (OO y7 T d11 d12)
 have eCI:=OS (fE:=fE) z1 T d2 eH;have eCH:=OT (P:=P) (w:=w) (mg:=mg) (base:=base) z2;have eCE:=OV z3 T d4 eE;have eCW:=OY (P:=P) (w:=w) (mg:=mg) (base:=base) z4 T;have t1:=Lc (P:=P) (w:=w) (base:=base) t_sNOf T;have t2:=Lk t_sROf T Z (Ld t_sNsO T t1) (Lg t_sPsO T (Le t_sPOf T t1));have t3:=Lm t_sRea T (Lh t_sMOf T) t2 eCI;have l1:=JU (P:=P) (w:=w) (base:=base) t_sWho T;have l0:=Ln (P:=P) (w:=w) (base:=base) t_sDrw T;have l2:=Lo (P:=P) (w:=w) (base:=base) t_sCel T;have l3:=Lu t_sLRs T (Lp t_sLRu T l2 (Pj t_sNb T));have l5:=Lr (P:=P) (w:=w) (base:=base) t_sLEa T;have l6:=LB t_sChp T l1 (LA t_sJnd T);have eNN:=KL z6 T eNL d4;have l7:=LG t_sLft T (Ly t_sMtd T) (LD t_sNtd T Z l6 eNN);have eCT:=OX z5 T d3 eCE;exact(LJ t_sLaw T l0 l3 (Lq t_sPrt T) l1 l5 l7 t3 (Lx t_sSho T Z d6 eCI eCW) eCW eCT).ok
end K20
open PySem PySem.W PyProof.Rows
set_option maxRecDepth 100000 in
set_option maxHeartbeats 0 in
theorem PySem.Challenge.cw_shareparley_k20_whole_texts_holds : PySem.Challenge.rw_shareparley_k20_whole_texts.Holds := by
 w_on;o_law;k_head;(case hw=>w_witness2)
 k_fill
 refine K20.walk (l:=PySem.Challenge.rw_shareparley_k20_whole_texts) rfl rfl (fun w h Y=>PySem.W.kIn_of Y) ?F
 case F =>
  intro w mg fa h KX G hmg;refine K20.LK hmg ?T ?t_sNum ?t_sWith ?t_sChM ?t_sWC ?t_sChk ?t_sHnd ?t_sIsT ?t_sHin ?t_sCkN ?t_sCkP ?t_sSrt ?t_sHB ?t_sSoH ?t_sNWo ?t_sPWo ?t_sBG ?t_sBP ?t_sCkC ?t_sCst ?t_sEnd ?t_sJon ?t_sLNt ?t_sNOf ?t_sNsO ?t_sPOf ?t_sPsO ?t_sROf ?t_sMOf ?t_sRea ?t_sSho ?t_sWho ?t_sDrw ?t_sCel ?t_sNb ?t_sLRu ?t_sLRs ?t_sPrt ?t_sLEa ?t_sMtd ?t_sJnd ?t_sChp ?t_sNtd ?t_sLft ?t_sLaw
  case T=>
   refine' K20.RE KX G ?iT ?hW ?nC ?cO ?cG ?fK ?hX ?pS ?pT ?iU ?j9 ?wF ?nP ?jE ?pU ?nQ ?xS ?lkAL ?GO ?lkLN ?we ?mr ?mf ?fg ?DD ?pgRU ?hdRU ?poRU ?saRU ?caRU ?moRU ?nmRU ?feRU ?fhRU ?frRU ?irRU ?mkRU ?fiRU ?kkRU ?Nv ?pgOW ?hdOW ?poOW ?saOW ?caOW ?moOW ?nmOW ?feOW ?fhOW ?frOW ?irOW ?mkOW ?fiOW ?kkOW ?nf0OW ?Mp ?pgPL ?hdPL ?poPL ?saPL ?caPL ?moPL ?nmPL ?fePL ?fhPL ?frPL ?irPL ?mkPL ?fiPL ?kkPL ?nf0PL ?Nw ?pgPA ?hdPA ?poPA ?saPA ?caPA ?moPA ?nmPA ?fePA ?fhPA ?frPA ?irPA ?mkPA ?fiPA ?kkPA ?nf0PA ?Nx ?pgVO ?hdVO ?poVO ?saVO ?caVO ?moVO ?nmVO ?feVO ?fhVO ?frVO ?irVO ?mkVO ?fiVO ?kkVO ?nf0VO ?nf1VO ?nf2VO ?Ny ?pgMA ?hdMA ?poMA ?saMA ?caMA ?moMA ?nmMA ?feMA ?fhMA ?frMA ?irMA ?mkMA ?fiMA ?kkMA ?nf0MA ?nf1MA ?Mq ?pgNE ?hdNE ?poNE ?saNE ?caNE ?moNE ?nmNE ?feNE ?fhNE ?frNE ?irNE ?mkNE ?fiNE ?kkNE ?nf0NE ?nf1NE ?fflNE ?ffwRU ?ffwOW ?ffwPL ?ffwPA ?ffwVO ?ffwMA ?ffwNE ?Mr ?pgCO ?hdCO ?poCO ?saCO ?caCO ?moCO ?nmCO ?nrCO ?feCO ?fhCO ?ftCO ?irCO ?ftbCO ?mkCO ?fiCO ?kkCO ?ffgNE ?lRI ?cdRI ?kpRI ?fnRI ?lH ?cdH ?kpH ?fnH ?lE ?cdE ?kpE ?fnE ?lRR ?cdRR ?kpRR ?fnRR ?lRW ?cdRW ?kpRW ?fnRW ?lOI ?cdOI ?kpOI ?fnOI ?lOR ?cdOR ?kpOR ?fnOR ?lOWo ?cdOWo ?kpOWo ?fnOWo ?lPI ?cdPI ?kpPI ?fnPI ?lPR ?cdPR ?kpPR ?fnPR ?lPlW ?cdPlW ?kpPlW ?fnPlW ?lPaI ?cdPaI ?kpPaI ?fnPaI ?lPaR ?cdPaR ?kpPaR ?fnPaR ?lPaW ?cdPaW ?kpPaW ?fnPaW ?lVI ?cdVI ?kpVI ?fnVI ?lVR ?cdVR ?kpVR ?fnVR ?lVW ?cdVW ?kpVW ?fnVW ?lMI ?cdMI ?kpMI ?fnMI ?lMR ?cdMR ?kpMR ?fnMR ?lMW ?cdMW ?kpMW ?fnMW ?lNI ?cdNI ?kpNI ?fnNI ?lNLs ?cdNLs ?kpNLs ?fnNLs ?lNRk ?cdNRk ?kpNRk ?fnNRk ?lNW ?cdNW ?kpNW ?fnNW ?lCI ?cdCI ?kpCI ?fnCI ?lCHs ?cdCHs ?kpCHs ?fnCHs ?lCEn ?cdCEn ?kpCEn ?fnCEn ?lCWo ?cdCWo ?kpCWo ?fnCWo ?lCTb ?cdCTb ?kpCTb ?fnCTb ?lNNt ?cdNNt ?kpNNt ?fnNNt ?cgcRI ?crcRI ?cfcRI ?PD ?NA ?BE ?NC ?c6 ?c7 ?SE2 ?SE3 ?SE4 ?SE5 ?SE8 ?SE9 ?BF ?ND ?NF
   case iT|hW|nC|cO|cG|fK|hX|pS|pT|iU|j9|wF|nP|jE|pU|nQ|xS|lkAL|GO|lkLN|we|mr|mf|fg|DD|pgRU|hdRU|poRU|saRU|caRU|moRU|nmRU|feRU|fhRU|frRU=>k_is
   (case irRU=>kit_is)
   case mkRU|fiRU|kkRU|Nv|pgOW|hdOW|poOW|saOW|caOW|moOW|nmOW|feOW|fhOW|frOW=>k_is
   (case irOW=>kit_is)
   case mkOW|fiOW|kkOW|nf0OW|Mp|pgPL|hdPL|poPL|saPL|caPL|moPL|nmPL|fePL|fhPL|frPL=>k_is
   (case irPL=>kit_is)
   case mkPL|fiPL|kkPL|nf0PL|Nw|pgPA|hdPA|poPA|saPA|caPA|moPA|nmPA|fePA|fhPA|frPA=>k_is
   (case irPA=>kit_is)
   case mkPA|fiPA|kkPA|nf0PA|Nx|pgVO|hdVO|poVO|saVO|caVO|moVO|nmVO|feVO|fhVO|frVO=>k_is
   (case irVO=>kit_is)
   case mkVO|fiVO|kkVO|nf0VO|nf1VO|nf2VO|Ny|pgMA|hdMA|poMA|saMA|caMA|moMA|nmMA|feMA|fhMA|frMA=>k_is
   (case irMA=>kit_is)
   case mkMA|fiMA|kkMA|nf0MA|nf1MA|Mq|pgNE|hdNE|poNE|saNE|caNE|moNE|nmNE|feNE|fhNE|frNE=>k_is
   (case irNE=>kit_is)
   case mkNE|fiNE|kkNE|nf0NE|nf1NE|fflNE|ffwRU|ffwOW|ffwPL|ffwPA|ffwVO|ffwMA|ffwNE|Mr|pgCO|hdCO|poCO|saCO|caCO|moCO|nmCO|nrCO|feCO|fhCO|ftCO=>k_is
   (case irCO=>kit_is)
   case ftbCO|mkCO|fiCO|kkCO|ffgNE|lRI|cdRI|kpRI|fnRI|lH|cdH|kpH|fnH|lE|cdE|kpE|fnE|lRR|cdRR|kpRR|fnRR|lRW|cdRW|kpRW|fnRW|lOI|cdOI|kpOI|fnOI|lOR|cdOR|kpOR|fnOR|lOWo|cdOWo|kpOWo|fnOWo|lPI|cdPI|kpPI|fnPI|lPR|cdPR|kpPR|fnPR|lPlW|cdPlW|kpPlW|fnPlW|lPaI|cdPaI|kpPaI|fnPaI|lPaR|cdPaR|kpPaR|fnPaR|lPaW|cdPaW|kpPaW|fnPaW|lVI|cdVI|kpVI|fnVI|lVR|cdVR|kpVR|fnVR|lVW|cdVW|kpVW|fnVW|lMI|cdMI|kpMI|fnMI|lMR|cdMR|kpMR|fnMR|lMW|cdMW|kpMW|fnMW|lNI|cdNI|kpNI|fnNI|lNLs|cdNLs|kpNLs|fnNLs|lNRk|cdNRk|kpNRk|fnNRk|lNW|cdNW|kpNW|fnNW|lCI|cdCI|kpCI|fnCI|lCHs|cdCHs|kpCHs|fnCHs|lCEn|cdCEn|kpCEn|fnCEn|lCWo|cdCWo|kpCWo|fnCWo|lCTb|cdCTb|kpCTb|fnCTb|lNNt|cdNNt|kpNNt|fnNNt|cgcRI|crcRI|cfcRI|PD|NA|BE|NC|c6|c7|SE2|SE3|SE4|SE5|SE8|SE9=>k_is
   case BF|ND|NF=>k_exc
  case t_sNum|t_sChM|t_sWC|t_sHnd|t_sIsT|t_sHin|t_sCkN|t_sNWo|t_sPWo|t_sCkC|t_sCst|t_sEnd|t_sNOf|t_sNsO|t_sPOf|t_sPsO|t_sMOf|t_sRea|t_sSho|t_sWho|t_sDrw|t_sLaw=>
   refine' L2.bZ KX G ?a ?l ?c ?k (fun _ _ _ _ _ _=>L2.uu1 fun _=>rfl)
   case a|l|c|k=>k_is
  case t_sWith|t_sHB|t_sBG|t_sJon|t_sLRs|t_sPrt|t_sChp|t_sNtd|t_sLft=>
   refine' L2.bZ KX G ?a ?l ?c ?k (fun _ _ _ _ _ _=>L2.uu3 fun _ _ _=>rfl)
   case a|l|c|k=>k_is
  case t_sChk|t_sCkP|t_sSrt|t_sSoH|t_sBP|t_sLNt|t_sROf|t_sCel|t_sNb|t_sLEa|t_sMtd|t_sJnd=>
   refine' L2.bZ KX G ?a ?l ?c ?k (fun _ _ _ _ _ _=>L2.uu2 fun _ _=>rfl)
   case a|l|c|k=>k_is
  case t_sLRu=>
   refine' L2.bZ KX G ?a ?l ?c ?k (fun _ _ _ _ _ _=>L2.uu4 fun _ _ _ _=>rfl)
   case a|l|c|k=>k_is
