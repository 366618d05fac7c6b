import PyProof.Rows.All
import Wide.All
import OpenK.AllK
import Wide.FinOn
import Lean
import PyProof.EqAt
import PyProof.EqKinds
import PyProof.TupleCall
import PySem.Challenge.RW_shareparley_k19_tables_refused
import KE.IntBitsLaws
import OpenK.KEqL
import KE.LcSums
import KE.KTupSum
import PyProof.Rows.EqDataRows
import PyProof.EnumMake
import PyProof.Rows.Range3
import PyProof.Rows.SortShell
import PyProof.Rows.SortWalk
import PyProof.ListRange
import KE.KSortTup
import KE.KDictOf
import KE.KMinKey
import KE.KDictList
import PyProof.Rows.SetFrom
import PyProof.SetScanFacts
import KE.KRevIter
import PyProof.FString
import PyProof.Rows.StrJoin2
import KE.KIntText
import PyProof.Draws
import PyProof.StrLawsTight
import PyProof.StrLawsIdx
set_option Elab.async false
set_option linter.all false
set_option maxRecDepth 100000
namespace L2
open PySem PySem.Spec PyProof.Rows
abbrev Key:=Sum Int Str
def keyIs:Key→Value→Bool
  | .inl k,v=>Value.isInt k v
  | .inr x,v=>Value.isStrOf x v
def keyH (w:World):Key→Int
  | .inl k=>hashInt k
  | .inr x=>hashStr w x
theorem keyIs_shape:∀{k:Key}{v:Value},keyIs k v=true→(∃i t,k=Sum.inl i∧v=Value.int i t)∨(∃x t,k=Sum.inr x∧v=Value.str x t)
  | .inl i,v,h=>by
    obtain⟨t,e⟩:=Value.isInt_shape (k:=i) (v:=v) h
    exact .inl ⟨i,t,rfl,e⟩
  | .inr x,v,h=>by
    obtain⟨t,e⟩:=Value.isStrOf_shape (x:=x) (v:=v) h
    exact .inr ⟨x,t,rfl,e⟩
theorem key_ll (a b:Int):decide ((Sum.inl a:Key)=Sum.inl b)=(a == b):=by
  by_cases e:a=b
  · subst e;simp
  · have h:¬(Sum.inl a:Key)=Sum.inl b:=fun q=>e (Sum.inl.inj q)
    rw[decide_eq_false h]
    exact(beq_eq_false_iff_ne.mpr e).symm
theorem key_rr (a b:Str):decide ((Sum.inr a:Key)=Sum.inr b)=decide (a=b):=by
  by_cases e:a=b
  · subst e;simp
  · have h:¬(Sum.inr a:Key)=Sum.inr b:=fun q=>e (Sum.inr.inj q)
    rw[decide_eq_false h,decide_eq_false e]
theorem key_lr (a:Int) (b:Str):decide ((Sum.inl a:Key)=Sum.inr b)=false:=decide_eq_false (fun q=>nomatch q)
theorem key_rl (a:Str) (b:Int):decide ((Sum.inr a:Key)=Sum.inl b)=false:=decide_eq_false (fun q=>nomatch q)
def mixKind (prog:Program) (w:World):PySem.KeyKind prog w Key where
  is:=keyIs
  hash:=keyH w
  inj:=fun v a b ha hb=>by
    rcases keyIs_shape ha with ⟨i,t,rfl,rfl⟩ | ⟨x,t,rfl,rfl⟩
    · rcases keyIs_shape hb with ⟨j,u,rfl,e⟩ | ⟨y,u,rfl,e⟩
      · injection e with e1 _;rw[e1]
      · exact nomatch e
    · rcases keyIs_shape hb with ⟨j,u,rfl,e⟩ | ⟨y,u,rfl,e⟩
      · exact nomatch e
      · injection e with e1 _;rw[e1]
  byValue:=fun k v h=>by
    rcases keyIs_shape h with ⟨i,t,rfl,rfl⟩ | ⟨x,t,rfl,rfl⟩ <;> rfl
  pyHash:=fun hv h=>by
    rcases keyIs_shape hv with ⟨i,t,rfl,rfl⟩ | ⟨x,t,rfl,rfl⟩
    · exact wpAny_pyHash_int h
    · exact wpAny_pyHash_str h
  eqBool:=fun hu hv h=>by
    rcases keyIs_shape hu with ⟨i,t,rfl,rfl⟩ | ⟨x,t,rfl,rfl⟩
    · rcases keyIs_shape hv with ⟨j,u,rfl,rfl⟩ | ⟨y,u,rfl,rfl⟩
      · rw[key_ll] at h;exact wpAny_eqBool_int h
      · rw[key_lr] at h;exact SeqAt.EqAt.int_str i t y u _ _ _ _ h
    · rcases keyIs_shape hv with ⟨j,u,rfl,rfl⟩ | ⟨y,u,rfl,rfl⟩
      · rw[key_rl] at h;exact SeqAt.EqAt.str_int x t j u _ _ _ _ h
      · rw[key_rr] at h;exact wpAny_eqBool_str h
  «strs»:=fun k x t v h=>by
    rcases keyIs_shape h with ⟨i,u,rfl,e⟩ | ⟨y,u,rfl,e⟩
    · exact nomatch e
    · injection e with e1 _
      subst e1
      cases v <;> rfl
end L2
namespace L2
open PySem PySem.Spec PyProof.Rows
inductive V where
  | non | bl (b:Bool) | int (i:Int) | str (x:Str) | byt (b:Array UInt8) | flt (b:UInt64) | ref (a:Addr) | ty (n:String)
  deriving DecidableEq
def RelV:V→Value→Prop
  | .non,u=>u=Value.none
  | .bl b,u=>u=Value.bool b
  | .int i,u=>∃t,u=Value.int i t
  | .str x,u=>∃t,u=Value.str x t
  | .byt b,u=>∃t,u=Value.bytes b t
  | .flt b,u=>∃t,u=Value.float b t
  | .ref a,u=>u=Value.ref a
  | .ty n,u=>u=Value.type n
abbrev Vals:List V→List Value→Prop:=Paired RelV
theorem Vals.length (r:Vals xs us):xs.length=us.length:=Paired.length r
theorem Vals.get:∀{xs:List V}{us:List Value}{i:Nat}{x:V},Vals xs us→xs[i]?=some x→∃u,us[i]?=some u∧RelV x u
  | _,_,_,_,.nil,e=>by simp at e
  | _,_,0,_,.cons r _,e=>by simp at e;subst e;exact⟨_,rfl,r⟩
  | _,_,i+1,x,.cons _ t,e=>by
    obtain⟨u,h1,h2⟩:=Vals.get (i:=i) (x:=x) t (by simpa using e)
    exact⟨u,by simpa using h1,h2⟩
theorem Vals.append:∀{xs ys:List V}{us ws:List Value},Vals xs us→Vals ys ws→Vals (xs++ys) (us++ws)
  | _,_,_,_,.nil,s=>s
  | _,_,_,_,.cons r t,s=>.cons r (Vals.append t s)
theorem Vals.take:∀{xs:List V}{us:List Value} (n:Nat),Vals xs us→Vals (xs.take n) (us.take n)
  | _,_,0,_=>.nil
  | _,_,_+1,.nil=>.nil
  | _,_,n+1,.cons r t=>.cons r (Vals.take n t)
theorem Vals.drop:∀{xs:List V}{us:List Value} (n:Nat),Vals xs us→Vals (xs.drop n) (us.drop n)
  | _,_,0,r=>r
  | _,_,_+1,.nil=>.nil
  | _,_,n+1,.cons _ t=>Vals.drop n t
def RelO:Option V→Option Value→Prop
  | some v,some u=>RelV v u
  | none,none=>True
  | _,_=>False
def KV {κ:Type}:List (κ×V)→List (κ×Value)→Prop:=Paired fun(p:κ×V) (q:κ×Value)=>p.1=q.1∧RelV p.2 q.2
def kV:Key→V
  | .inl i=>.int i
  | .inr x=>.str x
inductive HO where
  | lst (xs:List V)
  | tup (xs:List V)
  | dK (kvs:List (Key×V)) | dT (kvs:List (List Key×V))
  | set (S:Int→Bool) (n:Nat)
  | ins (C dx:Addr) (fs:List (Str×V))
  | own (x:Addr)
  | xd (fs:List (Str×V))
  | met (f x:Addr)
  | rng (lo hi:Int)
  | frz (o:Obj) (u:HO)
  | tbl (ps:Array Value)
  | ext (φ:Heap→Prop)
abbrev Hp:=Addr→Option HO
def upd (H:Hp) (a:Addr) (o:HO):Hp:=fun b=>if b=a then some o else H b
theorem upd_same:upd H a o a=some o:=by unfold upd;rw[if_pos rfl]
theorem upd_ne (h:b≠a):upd H a o b=H b:=by unfold upd;rw[if_neg h]
theorem upd_upd:upd (upd H a o) a u=upd H a u:=by
  funext b;unfold upd;split <;> rfl
theorem ne_of {H:Hp}{a b:Addr}{o u:HO} (h:H a=some o) (h':H b=some u) (d:o≠u):a≠b:=by
  intro e;subst e;rw[h] at h';exact d (Option.some.inj h')
theorem ne_of_none {H:Hp}{a b:Addr}{o:HO} (h:H a=some o) (h':H b=none):a≠b:=by
  intro e;subst e;rw[h] at h';cases h'
section
variable (P:Program) (w:World)
def ObjOk (H:Hp) (h:Heap) (a:Addr):HO→Prop
  | .lst xs=>xs.length≤sizeLine∧∃(its:List Value) (n:Nat),Vals xs its∧h.get? a=some { cls:=.type "list",data:=.seq its.toArray n }
  | .tup xs=>xs.length≤sizeLine∧∃its:List Value,Vals xs its∧IsTup h a its.toArray
  | .dK kvs=>kvs.length≤sizeLine∧(a == sysModules)=false∧∃vs,KV kvs vs∧h.DictOf (mixKind P w) a vs
  | .dT kvs=>kvs.length≤sizeLine∧(a == sysModules)=false∧∃xs:List (List Key×Addr×Value),
      Paired (fun(p:List Key×V) (q:List Key×Addr×Value)=>p.1=q.1∧H q.2.1=some (.tup (p.1.map kV))∧RelV p.2 q.2.2) kvs xs ∧
      ∃o es ep,h.get? a=some o∧o.ExactDict∧o.data = .dict es ep∧es.toList=xs.map (entryOfKey (tupleKind (mixKind P w)))∧(xs.map (·.1)).Nodup
  | .set S n=>h.SetOf (intKind P w) a S n
  | .ins C dx fs=>H dx=some (.own a)∧fs.length≤1000∧dx≠a∧h.get? a=some (PySem.W.instObj C dx) ∧
      ∃mA,h.Ns1 dx mA∧(∀f,RelO (fs.lookup f) (mA f))∧PySem.Within mA (fs.map (·.1))
  | .own _=>∃o,h.get? a=some o
  | .xd fs=>∃mA,h.Ns1 a mA∧∀f,RelO (fs.lookup f) (mA f)
  | .rng lo hi=>∃t u v,h.get? a=some { cls:=.type "range",data:=.fields #[.int lo t,.int hi u,.int 1 v] }
  | .frz o u=>h.get? a=some o∧ObjOk H h a u
  | .tbl ps=>h.get? a=some { cls:=.none,data:=.fields ps }
  | .met f x=>h.get? a=some (PySem.W.methodObj (.ref f) (.ref x))
  | .ext φ=>φ h∧(∃o,h.get? a=some o)∧∀h1 h2:Heap,φ h1→(∀o,h1.get? a=some o→h2.get? a=some o)→φ h2
def HOk (H:Hp) (h:Heap):Prop:=∀a o,H a=some o→ObjOk P w H h a o
end
section
variable {P:Program}{w:World}{H H':Hp}{h h':Heap}{a:Addr}{o:HO}
theorem ObjOk.lt (x:ObjOk P w H h a o):a<h.objs.size:=by
  cases o with
  | lst xs=>obtain⟨_,_,_,_,e⟩:=x;exact Heap.lt_size e
  | tup xs=>obtain⟨_,_,_,p⟩:=x;exact p.lt
  | dK kvs=>obtain⟨_,_,_,_,o,_,_,e,_⟩:=x;exact Heap.lt_size e
  | dT kvs=>obtain⟨_,_,_,_,o,_,_,e,_⟩:=x;exact Heap.lt_size e
  | set S n=>obtain⟨o,_,_,_,e,_⟩:=x;exact Heap.lt_size e
  | ins C dx fs=>obtain⟨_,_,_,e,_⟩:=x;exact Heap.lt_size e
  | own y=>obtain⟨_,e⟩:=x;exact Heap.lt_size e
  | xd fs=>obtain⟨_,⟨_,_,_,e,_⟩,_⟩:=x;exact Heap.lt_size e
  | rng lo hi=>obtain⟨_,_,_,e⟩:=x;exact Heap.lt_size e
  | frz ob u=>obtain⟨e,_⟩:=x;exact Heap.lt_size e
  | tbl ps=>exact Heap.lt_size (show h.get? a=some _ from x)
  | met f y=>exact Heap.lt_size (show h.get? a=some _ from x)
  | ext φ=>obtain⟨_,⟨_,e⟩,_⟩:=x;exact Heap.lt_size e
theorem Paired.mapP:∀{l₁:List α}{l₂:List β},Paired F l₁ l₂→(∀a b,F a b→G a b)→Paired G l₁ l₂
  | _,_,.nil,_=>.nil
  | _,_,.cons r t,f=>.cons (f _ _ r) (Paired.mapP t f)
theorem ObjOk.stay (x:ObjOk P w H h a o) (k:∀b u,(b=a∨H b=some (.own a))→h.get? b=some u→h'.get? b=some u)
    (ho:∀b,H b=some (.own a)→H' b=some (.own a)) (ht:∀b xs,H b=some (.tup xs)→H' b=some (.tup xs)):ObjOk P w H' h' a o:=by
  induction o with
  | lst xs=>obtain⟨z,its,n,r,e⟩:=x;exact⟨z,its,n,r,k _ _ (.inl rfl) e⟩
  | tup xs=>obtain⟨z,its,r,ob,e,c⟩:=x;exact⟨z,its,r,ob,k _ _ (.inl rfl) e,c⟩
  | dK kvs=>obtain⟨z,y,vs,r,ob,es,ep,e,c⟩:=x;exact⟨z,y,vs,r,ob,es,ep,k _ _ (.inl rfl) e,c⟩
  | dT kvs =>
    obtain⟨z,y,xs,r,ob,es,ep,e,c⟩:=x
    exact⟨z,y,xs,Paired.mapP r fun p q z=>⟨z.1,ht _ _ z.2.1,z.2.2⟩,ob,es,ep,k _ _ (.inl rfl) e,c⟩
  | set S n=>obtain⟨ob,es,ep,t,e,c⟩:=x;exact⟨ob,es,ep,t,k _ _ (.inl rfl) e,c⟩
  | ins C dx fs =>
    obtain⟨d,z,ne,e,mA,⟨od,es,ep,e2,c⟩,r⟩:=x
    exact⟨ho _ d,z,ne,k _ _ (.inl rfl) e,mA,⟨od,es,ep,k _ _ (.inr d) e2,c⟩,r⟩
  | own y=>obtain⟨ob,e⟩:=x;exact⟨ob,k _ _ (.inl rfl) e⟩
  | xd fs=>obtain⟨mA,⟨od,es,ep,e,c⟩,r⟩:=x;exact⟨mA,⟨od,es,ep,k _ _ (.inl rfl) e,c⟩,r⟩
  | rng lo hi=>obtain⟨t,u,v,e⟩:=x;exact⟨t,u,v,k _ _ (.inl rfl) e⟩
  | frz ob u ih=>obtain⟨e,q⟩:=x;exact⟨k _ _ (.inl rfl) e,ih q⟩
  | tbl ps =>
    have e:h.get? a=some { cls:=.none,data:=.fields ps }:=x
    show h'.get? a=some { cls:=.none,data:=.fields ps }
    exact k a _ (.inl rfl) e
  | met f y =>
    have e:h.get? a=some (PySem.W.methodObj (.ref f) (.ref y)):=x
    show h'.get? a=some (PySem.W.methodObj (.ref f) (.ref y))
    exact k a _ (.inl rfl) e
  | ext φ=>obtain⟨p,⟨o,e⟩,st⟩:=x;exact⟨st _ _ p fun o q=>k _ _ (.inl rfl) q,⟨o,k _ _ (.inl rfl) e⟩,st⟩
theorem HOk.lt (x:HOk P w H h) (e:H a=some o):a<h.objs.size:=(x a o e).lt
theorem HOk.fresh (x:HOk P w H h) (e:h.objs.size≤a):H a=none:=by
  cases q:H a with
  | none=>rfl
  | some u=>exact absurd (Nat.lt_of_lt_of_le (x.lt q) e) (Nat.lt_irrefl _)
theorem HOk.kept (x:HOk P w H h) (k:∀b u,h.get? b=some u→h'.get? b=some u):HOk P w H h':=fun a o e =>
  (x a o e).stay (fun b u _ q=>k b u q) (fun _ q=>q) fun _ _ q=>q
theorem HOk.laid (x:HOk P w H h) (k:∀b u,h.get? b=some u→h'.get? b=some u) (hp:h.objs.size≤a) (new:ObjOk P w (upd H a o) h' a o):HOk P w (upd H a o) h':=fun b u e=>by
  have hn:=x.fresh hp
  by_cases hb:b=a
  · subst hb;rw[upd_same] at e;cases e;exact new
  · rw[upd_ne hb] at e
    exact(x b u e).stay (fun c v _ q=>k c v q) (fun c q=>by rw[upd_ne (ne_of_none q hn)];exact q) fun c xs q=>by rw[upd_ne (ne_of_none q hn)];exact q
end
def Rd (H:Hp) (a:Addr) (u:HO):Prop:=H a=some u∨∃o,H a=some (.frz o u)
theorem Rd.ok (r:Rd H a u) (x:HOk P w H h):ObjOk P w H h a u:=by
  rcases r with r | ⟨o,r⟩
  · exact x a u r
  · obtain⟨_,q⟩:=x a _ r
    exact q
def Mut:Option HO→Prop
  | some (.lst _)=>True
  | some (.dK _)=>True
  | some (.dT _)=>True
  | some (.set _ _)=>True
  | some (.ins _ _ _)=>True
  | some (.ext _)=>True
  | _=>False
section
variable {P:Program}{w:World}{H:Hp}{h h':Heap}{x e:Addr}{o':HO}
theorem HOk.write (ok:HOk P w H h) (mu:Mut (H x)) (he:e=x∨H e=some (.own x)) (k:∀b u,b≠e→h.get? b=some u→h'.get? b=some u) (heo:∃u,h'.get? e=some u)
    (new:ObjOk P w (upd H x o') h' x o'):HOk P w (upd H x o') h':=fun b u q=>by
  have nown:∀c y,H c=some (.own y)→c≠x:=fun c y r z=>by subst z;rw[r] at mu;exact mu
  have ntup:∀c xs,H c=some (.tup xs)→c≠x:=fun c xs r z=>by subst z;rw[r] at mu;exact mu
  by_cases hb:b=x
  · subst hb;rw[upd_same] at q;cases q;exact new
  · rw[upd_ne hb] at q
    by_cases hbe:b=e
    · have q':H b=some (.own x):=by
        rcases he with z | z
        · exact absurd (hbe.trans z) hb
        · rw[hbe];exact z
      rw[q] at q';cases q'
      obtain⟨v,hv⟩:=heo
      exact⟨v,by rw[hbe];exact hv⟩
    · refine(ok b u q).stay (fun c v hc r=>k c v ?_ r) (fun c r=>by rw[upd_ne (nown c b r)];exact r) fun c xs r=>by rw[upd_ne (ntup c xs r)];exact r
      rcases hc with rfl | hc
      · exact hbe
      · rintro rfl
        rcases he with z | z
        · exact nown c b hc z
        · rw[hc] at z;cases z;exact hb rfl
end
structure Un (fs ex:List Addr) (H H':Hp) (h h':Heap):Prop where
  keep:∀b o,h.get? b=some o→H b=none→b∉fs→b∉ex→h'.get? b=some o
  slot:∀b o,h.get? b=some o→H b=none→b∈fs→b∉ex→∃sl,h'.get? b=some { o with slots:=sl }
  free:∀b o,h.get? b=some o→H b=none→b∉ex→H' b=none
  there:∀b o,h.get? b=some o→b∉ex→∃o',h'.get? b=some o'
  tups:∀b xs,H b=some (.tup xs)→H' b=some (.tup xs)
  frzs:∀b o u,H b=some (.frz o u)→H' b=some (.frz o u)
  tbls:∀b ps,H b=some (.tbl ps)→∃more,H' b=some (.tbl (ps++more))
section
variable {fs fs' ex ex':List Addr}{H H1 H2:Hp}{h h1 h2 h':Heap}{a x e:Addr}{o:HO}
theorem Un.any (u:Un fs ex H H1 h h1){b:Addr}{ob:Obj} (q:h.get? b=some ob) (n:H b=none) (hx:b∉ex):∃sl,h1.get? b=some { ob with slots:=sl }:=by
  by_cases hb:b∈fs
  · exact u.slot b ob q n hb hx
  · exact⟨ob.slots,u.keep b ob q n hb hx⟩
theorem Un.kept (k:∀b u,h.get? b=some u→h'.get? b=some u):Un fs ex H H h h' :=
  ⟨fun b ob q _ _ _=>k b ob q,fun b ob q _ _ _=>⟨ob.slots,k b ob q⟩,fun _ _ _ n _=>n,fun b ob q _=>⟨ob,k b ob q⟩,fun _ _ q=>q,fun _ _ _ q=>q,fun _ ps q=>⟨#[],by rw[q];simp⟩⟩
theorem Un.refl:Un fs ex H H h h:=Un.kept fun _ _ q=>q
theorem Un.laid (k:∀b u,h.get? b=some u→h'.get? b=some u) (hp:h.objs.size≤a) (hn:H a=none):Un fs ex H (upd H a o) h h' where
  keep:=fun b u q _ _ _=>k b u q
  slot:=fun b u q _ _ _=>⟨u.slots,k b u q⟩
  free:=fun b u q n _=>by rw[upd_ne (Nat.ne_of_lt (Nat.lt_of_lt_of_le (Heap.lt_size q) hp))];exact n
  there:=fun b u q _=>⟨u,k b u q⟩
  tups:=fun b xs q=>by rw[upd_ne (ne_of_none q hn)];exact q
  frzs:=fun b u xs q=>by rw[upd_ne (ne_of_none q hn)];exact q
  tbls:=fun b ps q=>⟨#[],by rw[upd_ne (ne_of_none q hn),q];simp⟩
theorem Un.write (mu:Mut (H x)) (he:e=x∨H e=some (.own x)) (k:∀b u,b≠e→h.get? b=some u→h'.get? b=some u) (heo:∃u,h'.get? e=some u):Un fs ex H (upd H x o) h h':=by
  have hx:∀b,H b=none→b≠x:=fun b n z=>by subst z;rw[n] at mu;exact mu
  have hb:∀b,H b=none→b≠e:=fun b n z=>by
    subst z
    rcases he with r | r
    · exact hx b n r
    · rw[n] at r;cases r
  have hm:∀b u,H b=some u→¬Mut (some u)→b≠x:=fun b u q nm z=>by subst z;rw[q] at mu;exact nm mu
  refine⟨fun b u q n _ _=>k b u (hb b n) q,fun b u q n _ _=>⟨u.slots,k b u (hb b n) q⟩,fun b u q n _=>by rw[upd_ne (hx b n)];exact n,fun b u q _=>?_,
    fun b xs q=>by rw[upd_ne (hm b _ q fun z=>z)];exact q,fun b u xs q=>by rw[upd_ne (hm b _ q fun z=>z)];exact q,fun b ps q=>⟨#[],by rw[upd_ne (hm b _ q fun z=>z),q];simp⟩⟩
  by_cases hbe:b=e
  · subst hbe;exact heo
  · exact⟨u,k b u hbe q⟩
end
def trk (h:Heap) (H:Hp):List Addr:=(List.range h.objs.size).filter fun a=>(H a).isSome
def hidT (h:Heap) (H:Hp):Heap:=PySem.W.hideAll h (trk h H)
theorem hidT_size (h:Heap) (H:Hp):(hidT h H).objs.size=h.objs.size:=PySem.W.hideAll_size _ _
theorem hidT_get (e:h.get? b=some o) (n:H b=none):(hidT h H).get? b=some o :=
  PySem.W.hideAll_get _ e fun hm=>by
    have q:(H b).isSome=true:=(List.mem_filter.mp hm).2
    rw[n] at q;simp at q
theorem of_hidT (e:(hidT h H).get? b=some o):h.get? b=some o∧H b=none:=by
  have e':h.get? b=some o:=PySem.W.of_hideAll (trk h H) e
  refine⟨e',?_⟩
  cases q:H b with
  | none=>rfl
  | some x =>
    have hm:b∈trk h H:=List.mem_filter.mpr ⟨List.mem_range.mpr (Heap.lt_size e'),by simp[q]⟩
    have z:(hidT h H).get? b=none:=PySem.W.hideAll_none (trk h H) hm
    rw[z] at e;cases e
def allNews (g h:Heap) (L:Addr):List (Addr×Obj):=(List.range h.objs.size).filterMap fun a=>if a=L∨(g.get? a).isSome=true then none else (h.get? a).map fun o=>(a,o)
def rest (g h:Heap) (L d:Addr):List (Addr×Obj):=(allNews g h L).filter fun p=>decide (p.1≠d)
end L2
namespace L2
open PySem PySem.Spec PyProof.Rows
structure Mod (K:PySem.W.Frag) (mg:Str→Option Value) (base:Heap):Prop where
  kin:K.In base
  glob:base.Ns mainGlobals mg
  blt:∃mb,base.Ns builtinsNs mb∧∀x:Str,x≠"__name__"→mb x=bootBuiltins x
  nolimit:base.NoLimit
structure Cx where
  prog:Program
  w:World
  K:PySem.W.Frag
  mg:Str→Option Value
  base:Heap
  A:Around
  N:List Str
  s₀:Shared
  H₀:Hp
  env:Env
  outer:List Env
  stack:List Env
  ex:List Addr
  fn:Str→Bool
  calm:Bool
  pn:List (Addr×Obj)
  xe:Value→Shared→Prop
def frs (l:List Env):List Addr:=l.filterMap (·.frame)
abbrev Cx.fs (X:Cx):List Addr:=frs X.outer
def Vis (sc:Scope) (x:Str):Prop:=sc.names.lookup x=some .local∨sc.names.lookup x=some .cell∨sc.names.lookup x=some .free
def Loc (sc:Scope) (x:Str):Prop:=sc.names.lookup x=some .local∨sc.names.lookup x=some .cell
def Look (env:Env) (h:Heap) (m:Str→Option Value) (x:Str) (u:Value):Prop :=
  (env.kindOf x=some .local∧m x=some u)∨((env.kindOf x=some .cell∨env.kindOf x=some .free)∧∃c,env.cells.lookup x=some c∧h.IsCell c (some u))
structure Cx.Ok (X:Cx):Prop where
  mod:Mod X.K X.mg X.base
  kind:X.env.scope.kind = .function
  glob:X.env.globals=mainGlobals
  blt:X.env.builtins=builtinsNs
  above:X.s₀.heap.objs.size≤X.env.locals
  inj:∀x y c,X.env.cells.lookup x=some c→X.env.cells.lookup y=some c→x=y
  has:∀x,(X.env.kindOf x=some .cell∨X.env.kindOf x=some .free)→∃c,X.env.cells.lookup x=some c
  cab:∀x c,X.fn x=true→X.env.cells.lookup x=some c→X.s₀.heap.objs.size≤c
  hd:X.calm=true→X.A.handled=none
  frames:X.A.frames=some X.stack
  stk:X.stack=X.outer∨(X.stack=X.env::X.outer∧X.env.frame=some X.env.locals)
  exf:∀b∈X.ex,b≠X.env.locals∧∀x c,X.env.cells.lookup x=some c→c≠b
  bs:∀b o,X.base.get? b=some o→X.s₀.heap.get? b=some o∧X.H₀ b=none
  bsz:X.base.objs.size≤X.s₀.heap.objs.size
  noex:∀b o,X.base.get? b=some o→b∉X.ex
  exfs:∀b∈X.ex,b∉X.fs
  funs:X.s₀.heap.FunFrames X.base X.outer
  frf:∀b∈X.fs,X.H₀ b=none
structure Inv (X:Cx) (pins:List (Addr×Obj)) (σ:List (Option V)) (H:Hp) (s:Shared):Prop where
  ok:X.Ok
  os:s.os=X.s₀.os
  bare:AllBare s.gens
  base:Un X.fs X.ex X.H₀ H X.s₀.heap s.heap
  loc:∃m,s.heap.Ns X.env.locals m∧∀(i:Nat) (x:Str) (v:V),X.N[i]?=some x→σ[i]?=some (some v)→Vis X.env.scope x→∃u,RelV v u∧Look X.env s.heap m x u
  cell:∀x c,X.env.cells.lookup x=some c→∃v,s.heap.IsCell c v
  free:H X.env.locals=none
  freeC:∀x c,X.env.cells.lookup x=some c→H c=none
  pin:∀p∈X.pn++pins,s.heap.get? p.1=some p.2∧H p.1=none∧p.1≠X.env.locals∧p.1∉X.fs∧∀v,p.2.data≠.cell v
  hok:HOk X.prog X.w H s.heap
  len:σ.length=X.N.length
section
variable {X:Cx}{pins:List (Addr×Obj)}{σ:List (Option V)}{H H':Hp}{s:Shared}{h':Heap}
theorem Cx.Ok.nofr (ok:X.Ok){b:Addr}{o:Obj} (e:X.base.get? b=some o):b∉X.fs:=fun hb=>by
  have:=(ok.funs.mem hb).1
  rw[e] at this;cases this
theorem Inv.bs (I:Inv X pins σ H s):∀b o,X.base.get? b=some o→s.heap.get? b=some o∧H b=none:=fun b o e =>
  ⟨I.base.keep b o (I.ok.bs b o e).1 (I.ok.bs b o e).2 (I.ok.nofr e) (I.ok.noex b o e),I.base.free b o (I.ok.bs b o e).1 (I.ok.bs b o e).2 (I.ok.noex b o e)⟩
theorem Inv.bk (I:Inv X pins σ H s):∀b o,X.base.get? b=some o→s.heap.get? b=some o:=fun b o e=>(I.bs b o e).1
theorem Inv.mod (I:Inv X pins σ H s):Mod X.K X.mg X.base:=I.ok.mod
theorem Inv.kIn (I:Inv X pins σ H s):X.K.In s.heap:=I.ok.mod.kin.keeps I.bk
theorem Inv.lt (I:Inv X pins σ H s):X.env.locals<s.heap.objs.size:=let ⟨_,hn,_⟩:=I.loc;hn.lt
theorem Inv.sz (I:Inv X pins σ H s):X.s₀.heap.objs.size≤s.heap.objs.size:=Nat.le_trans I.ok.above (Nat.le_of_lt I.lt)
theorem Inv.nofs (I:Inv X pins σ H s){a:Addr} (h:s.heap.objs.size≤a):a∉X.fs:=fun hb=>by
  obtain⟨_,o,ho,_⟩:=I.ok.funs.mem hb
  exact absurd (Nat.lt_of_lt_of_le (Heap.lt_size ho) (Nat.le_trans I.sz h)) (Nat.lt_irrefl _)
theorem Inv.cne (I:Inv X pins σ H s):∀x c,X.env.cells.lookup x=some c→c≠X.env.locals:=fun x c e z=>by
  obtain⟨v,o,ho,hd⟩:=I.cell x c e
  obtain⟨m,⟨o',es,ep,ho',hd',_⟩,_⟩:=I.loc
  rw[z,ho'] at ho;cases ho;rw[hd'] at hd;cases hd
theorem Inv.funs (I:Inv X pins σ H s):s.heap.FunFrames X.base X.outer:=by
  have all:∀(l:List Env),(∀b∈frs l,b∈X.fs)→X.s₀.heap.FunFrames X.base l→s.heap.FunFrames X.base l:=by
    intro l
    induction l with
    | nil=>intro _ _;trivial
    | cons env r ih =>
      intro hs hl
      obtain⟨hk,⟨L,o,hf,hn,ho,hd⟩,hr⟩:=hl
      have hL:L∈X.fs:=hs L (by unfold frs;rw[List.filterMap_cons,hf];exact List.mem_cons_self)
      obtain⟨sl,e⟩:=I.base.slot L o ho (I.ok.frf L hL) hL fun z=>I.ok.exfs L z hL
      exact⟨hk,⟨L,_,hf,hn,e,hd⟩,ih (fun b hb=>hs b (by unfold frs;rw[List.filterMap_cons,hf];exact List.mem_cons_of_mem _ hb)) hr⟩
  exact all X.outer (fun _ hb=>hb) I.ok.funs
theorem Inv.stack (I:Inv X pins σ H s):s.heap.FunFrames X.base X.stack:=by
  rcases I.ok.stk with e | ⟨e,hf⟩
  · rw[e];exact I.funs
  · rw[e]
    obtain⟨m,hn,_⟩:=I.loc
    refine .cons (by rw[I.ok.kind];decide) hf hn ?_ I.funs
    exact Heap.get?_none_of_le (Nat.le_trans I.ok.bsz I.ok.above)
theorem Inv.stkSub (I:Inv X pins σ H s):∀b∈frs X.stack,b∈X.env.locals::X.fs:=fun b hb=>by
  rcases I.ok.stk with e | ⟨e,hf⟩
  · rw[e] at hb;exact List.mem_cons_of_mem _ hb
  · rw[e] at hb
    unfold frs at hb
    rw[List.filterMap_cons,hf] at hb
    exact hb
theorem Inv.stkFree (I:Inv X pins σ H s):∀b∈frs X.stack,H b=none:=fun b hb=>by
  rcases List.mem_cons.mp (I.stkSub b hb) with e | hb
  · rw[e];exact I.free
  · obtain⟨_,o,ho,_⟩:=I.ok.funs.mem hb
    exact I.base.free b o ho (I.ok.frf b hb) fun z=>I.ok.exfs b z hb
theorem Inv.step {g':Array GenState}{t':Nat}{d':Drawn}{ch:List Addr} (I:Inv X pins σ H s)
    (hch:∀b∈ch,(b∈X.ex∨X.s₀.heap.objs.size≤b)∧b≠X.env.locals∧(∀x c,X.env.cells.lookup x=some c→c≠b)∧∀p∈X.pn++pins,p.1≠b)
    (keep:∀b o,b≠X.env.locals→b∉X.fs→b∉ch→s.heap.get? b=some o→H b=none→h'.get? b=some o)
    (slot:∀b o,b≠X.env.locals→b∈X.fs→b∉ch→s.heap.get? b=some o→H b=none→∃sl,h'.get? b=some { o with slots:=sl }) (free:∀b o,b∉ch→s.heap.get? b=some o→H b=none→H' b=none)
    (there:∀b o,b∉ch→s.heap.get? b=some o→∃o',h'.get? b=some o')
    (tups:∀b xs,H b=some (.tup xs)→H' b=some (.tup xs)) (frzs:∀b o u,H b=some (.frz o u)→H' b=some (.frz o u)) (tbls:∀b ps,H b=some (.tbl ps)→∃more,H' b=some (.tbl (ps++more)))
    (ns:∀m,s.heap.Ns X.env.locals m→h'.Ns X.env.locals m) (hok:HOk X.prog X.w H' h') (hg:AllBare g') :
    Inv X pins σ H' { s with heap:=h',gens:=g',drawn:=d',toks:=t' }:=by
  have neL:∀b o,X.s₀.heap.get? b=some o→b≠X.env.locals:=fun b o e=>Nat.ne_of_lt (Nat.lt_of_lt_of_le (Heap.lt_size e) I.ok.above)
  have neC:∀b o,X.s₀.heap.get? b=some o→b∉X.ex→b∉ch:=fun b o e hx hb=>by
    rcases(hch b hb).1 with z | z
    · exact hx z
    · exact absurd (Nat.lt_of_lt_of_le (Heap.lt_size e) z) (Nat.lt_irrefl _)
  have cellK:∀x c,X.env.cells.lookup x=some c→∀v,s.heap.IsCell c v→h'.IsCell c v:=fun x c e v ⟨o,ho,hd⟩=>by
    have nch:c∉ch:=fun z=>(hch c z).2.2.1 x c e rfl
    by_cases hc:c∈X.fs
    · obtain⟨sl,q⟩:=slot c o (I.cne x c e) hc nch ho (I.freeC x c e)
      exact⟨_,q,hd⟩
    · exact⟨o,keep c o (I.cne x c e) hc nch ho (I.freeC x c e),hd⟩
  refine⟨I.ok,I.os,hg,⟨fun b o e n hb hx=>?_,fun b o e n hb hx=>?_,fun b o e n hx=>?_,fun b o e hx=>?_,fun b xs e=>tups b xs (I.base.tups b xs e),fun b o xs e=>frzs b o xs (I.base.frzs b o xs e),fun b ps e=>?_⟩,?_,fun x c e=>?_,?_,fun x c e=>?_,fun p hp=>?_,hok,I.len⟩
  · exact keep b o (neL b o e) hb (neC b o e hx) (I.base.keep b o e n hb hx) (I.base.free b o e n hx)
  · obtain⟨sl,e1⟩:=I.base.slot b o e n hb hx
    obtain⟨sl',e2⟩:=slot b _ (neL b o e) hb (neC b o e hx) e1 (I.base.free b o e n hx)
    exact⟨sl',e2⟩
  · obtain⟨o',e1⟩:=I.base.there b o e hx
    exact free b o' (neC b o e hx) e1 (I.base.free b o e n hx)
  · obtain⟨o',e1⟩:=I.base.there b o e hx
    exact there b o' (neC b o e hx) e1
  · obtain⟨m1,e1⟩:=I.base.tbls b ps e
    obtain⟨m2,e2⟩:=tbls b _ e1
    exact⟨m1++m2,by rw[e2,Array.append_assoc]⟩
  · obtain⟨m,hn,hl⟩:=I.loc
    refine⟨m,ns m hn,fun i x v e1 e2 e3=>?_⟩
    obtain⟨u,r,l⟩:=hl i x v e1 e2 e3
    refine⟨u,r,?_⟩
    rcases l with l | ⟨k,c,e,z⟩
    · exact .inl l
    · exact .inr ⟨k,c,e,cellK x c e _ z⟩
  · obtain⟨v,z⟩:=I.cell x c e
    exact⟨v,cellK x c e v z⟩
  · obtain⟨m,⟨o,_,_,ho,_⟩,_⟩:=I.loc
    exact free _ o (fun z=>(hch _ z).2.1 rfl) ho I.free
  · obtain⟨v,o,ho,hd⟩:=I.cell x c e
    exact free c o (fun z=>(hch c z).2.2.1 x c e rfl) ho (I.freeC x c e)
  · obtain⟨e,n,ne,nf,d⟩:=I.pin p hp
    have nch:p.1∉ch:=fun z=>(hch p.1 z).2.2.2 p hp rfl
    exact⟨keep p.1 p.2 ne nf nch e n,free p.1 p.2 nch e n,ne,nf,d⟩
theorem Inv.un {t':Nat} (I:Inv X pins σ H s) (u:Un X.fs [] H H' s.heap h') (hok:HOk X.prog X.w H' h'):Inv X pins σ H' { s with heap:=h',toks:=t' }:=by
  obtain⟨m,⟨o,es,ep,ho,r⟩,_⟩:=id I.loc
  obtain⟨sl,hL⟩:=u.any ho I.free (by simp)
  exact I.step (g':=s.gens) (d':=s.drawn) (ch:=[]) (fun _ z=>nomatch z) (fun b o _ hb _ e n=>u.keep b o e n hb (by simp)) (fun b o _ hb _ e n=>u.slot b o e n hb (by simp)) (fun b o _ e n=>u.free b o e n (by simp)) (fun b o _ e=>u.there b o e (by simp)) u.tups u.frzs u.tbls (fun m' hm=>by
    obtain⟨o',es',ep',ho',r'⟩:=hm
    rw[ho] at ho';cases ho'
    exact⟨_,es',ep',hL,r'⟩) hok I.bare
theorem Inv.call {g':Array GenState}{t':Nat}{d':Drawn}{ch:List Addr} (I:Inv X pins σ H s) (u:Un (frs X.stack) ch H H' s.heap h') (hok:HOk X.prog X.w H' h') (hg:AllBare g')
    (hch:∀b∈ch,(b∈X.ex∨X.s₀.heap.objs.size≤b)∧b≠X.env.locals∧(∀x c,X.env.cells.lookup x=some c→c≠b)∧∀p∈X.pn++pins,p.1≠b) :
    Inv X pins σ H' { s with heap:=h',gens:=g',drawn:=d',toks:=t' }:=by
  obtain⟨m,⟨o,es,ep,ho,r⟩,_⟩:=id I.loc
  obtain⟨sl,hL⟩:=u.any ho I.free fun z=>(hch _ z).2.1 rfl
  exact I.step (ch:=ch) hch (fun b o hL hb hc e n=>u.keep b o e n (fun z=>(List.mem_cons.mp (I.stkSub b z)).elim hL hb) hc) (fun b o _ _ hc e n=>u.any e n hc) (fun b o hc e n=>u.free b o e n hc) (fun b o hc e=>u.there b o e hc) u.tups u.frzs u.tbls (fun m' hm=>by
    obtain⟨o',es',ep',ho',r'⟩:=hm
    rw[ho] at ho';cases ho'
    exact⟨_,es',ep',hL,r'⟩) hok hg
theorem Inv.turned {t':Nat}{it:Addr} (I:Inv X pins σ H s) (k:∀b o,b≠it→s.heap.get? b=some o→h'.get? b=some o) (hn:H it=none) (hL:it≠X.env.locals)
    (h1:it∈X.ex∨X.s₀.heap.objs.size≤it) (h2:∀x c,X.env.cells.lookup x=some c→c≠it) (h3:∀p∈X.pn++pins,p.1≠it):Inv X pins σ H { s with heap:=h',toks:=t' }:=by
  have nit:∀b u,H b=some u→b≠it:=fun b u e z=>by rw[z,hn] at e;cases e
  refine I.step (g':=s.gens) (d':=s.drawn) (ch:=[it]) (fun b hb=>?_) (fun b o _ _ hc e _=>k b o (fun z=>hc (by simp[z])) e) (fun b o _ _ hc e _=>⟨o.slots,k b o (fun z=>hc (by simp[z])) e⟩) (fun _ _ _ _ n=>n)
    (fun b o hc e=>⟨o,k b o (fun z=>hc (by simp[z])) e⟩) (fun _ _ e=>e) (fun _ _ _ e=>e) (fun b ps e=>⟨#[],by rw[e];simp⟩) (fun m hm=>?_) (fun b u e=>?_) I.bare
  · have e:b=it:=by simpa using hb
    subst e
    exact⟨h1,hL,h2,h3⟩
  · obtain⟨o,es,ep,ho,r⟩:=hm
    exact⟨o,es,ep,k _ o (Ne.symm hL) ho,r⟩
  · refine(I.hok b u e).stay (fun c v hc q=>k c v ?_ q) (fun _ q=>q) fun _ _ q=>q
    rcases hc with z | z
    · rw[z];exact nit b u e
    · exact nit c _ z
theorem Inv.tok (I:Inv X pins σ H s) (t:Nat):Inv X pins σ H { s with toks:=t }:=I.un (h':=s.heap) (t':=t) Un.refl I.hok
theorem Inv.kept (I:Inv X pins σ H s) (k:∀b u,s.heap.get? b=some u→h'.get? b=some u):Inv X pins σ H { s with heap:=h',toks:=t' }:=I.un (Un.kept k) (I.hok.kept k)
theorem Inv.laid (I:Inv X pins σ H s) (k:∀b u,s.heap.get? b=some u→h'.get? b=some u) (hp:s.heap.objs.size≤a) (new:ObjOk X.prog X.w (upd H a o) h' a o) :
    Inv X pins σ (upd H a o) { s with heap:=h',toks:=t' }:=I.un (Un.laid k hp (I.hok.fresh hp)) (I.hok.laid k hp new)
theorem Inv.write (I:Inv X pins σ H s) (mu:Mut (H x)) (he:e=x∨H e=some (.own x)) (k:∀b u,b≠e→s.heap.get? b=some u→h'.get? b=some u) (heo:∃u,h'.get? e=some u)
    (new:ObjOk X.prog X.w (upd H x o) h' x o):Inv X pins σ (upd H x o) { s with heap:=h',toks:=t' }:=I.un (Un.write mu he k heo) (I.hok.write mu he k heo new)
theorem Inv.pins_of (I:Inv X pins σ H s) (h:∀p∈pins',s.heap.get? p.1=some p.2∧H p.1=none∧p.1≠X.env.locals∧p.1∉X.fs∧∀v,p.2.data≠.cell v):Inv X pins' σ H s :=
  ⟨I.ok,I.os,I.bare,I.base,I.loc,I.cell,I.free,I.freeC,fun p hp=>(List.mem_append.mp hp).elim (fun z=>I.pin p (List.mem_append_left _ z)) (h p),I.hok,I.len⟩
theorem nodup_ix {N:List Str} (hN:N.Nodup){i j:Nat}{x:Str} (a:N[i]?=some x) (b:N[j]?=some x):i=j:=by
  obtain⟨h1,e1⟩:=List.getElem?_eq_some_iff.mp a
  obtain⟨h2,e2⟩:=List.getElem?_eq_some_iff.mp b
  exact(List.getElem_inj hN).mp (e1.trans e2.symm)
theorem store_ok2 {M:Model}{A:Around}{E:Value→Shared→Prop}{i:Nat}{x:Str}{v:V}{u:Value}{Q:Unit→Shared→Prop} (I:Inv X pins σ H s) (hN:X.N.Nodup) (hi:X.N[i]?=some x) (hx:Loc X.env.scope x) (r:RelV v u)
    (h:∀s',Inv X pins (σ.set i (some v)) H s'→(∃a,Heap.SameBut a s.heap s'.heap∧(a=X.env.locals∨X.env.cells.lookup x=some a))→Q () s') (hf:X.fn x=true∨X.env.scope.names.lookup x=some .local:=by first | exact .inl rfl | exact .inr rfl | assumption):wpAny M A (storeName X.env x u) Q E s:=by
  obtain⟨m,hn,hl⟩:=id I.loc
  have hcls:(X.env.scope.kind == .class||(X.env.scope.kind == .module&&X.env.locals != X.env.globals))=false:=by rw[I.ok.kind];rfl
  have hiσ:i<σ.length:=by rw[I.len];exact(List.getElem?_eq_some_iff.mp hi).1
  have cne:=I.cne
  have tracked:∀{a:Addr}{h':Heap},(∃o,s.heap.get? a=some o∧H a=none)→Heap.SameBut a s.heap h'→HOk X.prog X.w H h':=fun {a h'} ha hs b ob e=>by
    obtain⟨_,_,hfree⟩:=ha
    refine(I.hok b ob e).stay (fun c w' hc q=>(hs.2 c ?_).trans q) (fun _ q=>q) fun _ _ q=>q
    rintro rfl
    rcases hc with rfl | hc
    · rw[hfree] at e;cases e
    · rw[hfree] at hc;cases hc
  rcases hx with hk | hk
  · refine wpAny_storeName_local hk hn (fun h' hn' hs=>?_) hcls
    obtain⟨oL,_,_,hoL,_⟩:=id hn
    refine h _ ⟨I.ok,I.os,I.bare,⟨fun b o e n hb hx=>?_,fun b o e n hb hx=>?_,I.base.free,fun b o e hx=>?_,I.base.tups,I.base.frzs,I.base.tbls⟩,⟨_,hn',fun j y v' e1 e2 e3=>?_⟩,fun y c e=>?_,I.free,I.freeC,fun p hp=>?_,tracked ⟨oL,hoL,I.free⟩ hs,by simpa using I.len⟩ ⟨_,hs,.inl rfl⟩
    · exact(hs.2 b (Nat.ne_of_lt (Nat.lt_of_lt_of_le (Heap.lt_size e) I.ok.above))).trans (I.base.keep b o e n hb hx)
    · obtain⟨sl,e1⟩:=I.base.slot b o e n hb hx
      exact⟨sl,(hs.2 b (Nat.ne_of_lt (Nat.lt_of_lt_of_le (Heap.lt_size e) I.ok.above))).trans e1⟩
    · obtain⟨o',e1⟩:=I.base.there b o e hx
      exact⟨o',(hs.2 b (Nat.ne_of_lt (Nat.lt_of_lt_of_le (Heap.lt_size e) I.ok.above))).trans e1⟩
    · by_cases hj:j=i
      · subst hj
        rw[hi] at e1;cases e1
        rw[List.getElem?_set_self hiσ] at e2
        cases e2
        exact⟨u,r,.inl ⟨hk,by simp⟩⟩
      · rw[List.getElem?_set_ne (Ne.symm hj)] at e2
        obtain⟨u',r',q⟩:=hl j y v' e1 e2 e3
        refine⟨u',r',?_⟩
        rcases q with ⟨k,e⟩ | ⟨k,c,e,z⟩
        · refine .inl ⟨k,?_⟩
          have:y≠x:=fun e=>hj (nodup_ix hN e1 (e▸hi))
          simp[this,e]
        · exact .inr ⟨k,c,e,z.sameBut hs (cne y c e)⟩
    · obtain⟨w',z⟩:=I.cell y c e
      exact⟨w',z.sameBut hs (cne y c e)⟩
    · obtain⟨e,n,ne,nf,d⟩:=I.pin p hp
      exact⟨(hs.2 p.1 ne).trans e,n,ne,nf,d⟩
  · have hfn:X.fn x=true:=by
      rcases hf with z | z
      · exact z
      · rw[z] at hk;cases hk
    obtain⟨c,hc⟩:=I.ok.has x (.inl hk)
    obtain⟨w',z⟩:=I.cell x c hc
    refine wpAny_storeName_cell I.ok.kind hk hc z (fun h' hc' hs=>?_)
    obtain⟨oc,hoc,hocd⟩:=id z
    refine h { s with heap:=h' } ⟨I.ok,I.os,I.bare,⟨fun b o e n hb hx=>?_,fun b o e n hb hx=>?_,I.base.free,fun b o e hx=>?_,I.base.tups,I.base.frzs,I.base.tbls⟩,⟨m,hn.sameBut hs (Ne.symm (cne x c hc)),fun j y v' e1 e2 e3=>?_⟩,fun y c' e=>?_,I.free,I.freeC,fun p hp=>?_,tracked ⟨oc,hoc,I.freeC x c hc⟩ hs,by simpa using I.len⟩ ⟨c,hs,.inr hc⟩
    · exact(hs.2 b (Nat.ne_of_lt (Nat.lt_of_lt_of_le (Heap.lt_size e) (I.ok.cab x c hfn hc)))).trans (I.base.keep b o e n hb hx)
    · obtain⟨sl,e1⟩:=I.base.slot b o e n hb hx
      exact⟨sl,(hs.2 b (Nat.ne_of_lt (Nat.lt_of_lt_of_le (Heap.lt_size e) (I.ok.cab x c hfn hc)))).trans e1⟩
    · obtain⟨o',e1⟩:=I.base.there b o e hx
      exact⟨o',(hs.2 b (Nat.ne_of_lt (Nat.lt_of_lt_of_le (Heap.lt_size e) (I.ok.cab x c hfn hc)))).trans e1⟩
    · by_cases hj:j=i
      · subst hj
        rw[hi] at e1;cases e1
        rw[List.getElem?_set_self hiσ] at e2
        cases e2
        exact⟨u,r,.inr ⟨.inl hk,c,hc,hc'⟩⟩
      · rw[List.getElem?_set_ne (Ne.symm hj)] at e2
        obtain⟨u',r',q⟩:=hl j y v' e1 e2 e3
        refine⟨u',r',?_⟩
        rcases q with q | ⟨k,c',e,z'⟩
        · exact .inl q
        · refine .inr ⟨k,c',e,z'.sameBut hs ?_⟩
          rintro rfl
          exact hj (nodup_ix hN e1 (I.ok.inj _ _ _ e hc▸hi))
    · by_cases hcc:c'=c
      · subst hcc;exact⟨_,hc'⟩
      · obtain⟨w2,z2⟩:=I.cell y c' e
        exact⟨w2,z2.sameBut hs hcc⟩
    · obtain⟨e,n,ne,nf,d⟩:=I.pin p hp
      refine⟨(hs.2 p.1 ?_).trans e,n,ne,nf,d⟩
      intro q
      rw[q,hoc] at e
      have q':oc=p.2:=Option.some.inj e
      exact d w' (by rw[← q'];exact hocd)
theorem store_ok (I:Inv X pins σ H s) (hN:X.N.Nodup) (hi:X.N[i]?=some x) (hx:Loc X.env.scope x) (r:RelV v u)
    (h:∀s',Inv X pins (σ.set i (some v)) H s'→Q () s') (hf:X.fn x=true∨X.env.scope.names.lookup x=some .local:=by first | exact .inl rfl | exact .inr rfl | assumption):wpAny M A (storeName X.env x u) Q E s :=
  store_ok2 I hN hi hx r (fun s' I' _=>h s' I') hf
theorem Inv.call' (I:Inv X pins σ H s) (ho:s'.os=s.os) (u:Un (frs X.stack) ch H H' s.heap s'.heap) (hok:HOk X.prog X.w H' s'.heap) (hg:AllBare s'.gens)
    (hch:∀b∈ch,(b∈X.ex∨X.s₀.heap.objs.size≤b)∧b≠X.env.locals∧(∀x c,X.env.cells.lookup x=some c→c≠b)∧∀p∈X.pn++pins,p.1≠b):Inv X pins σ H' s':=by
  obtain⟨h',g',d',t',o'⟩:=s'
  have e:o'=s.os:=ho
  subst e
  exact I.call (g':=g') (t':=t') (d':=d') u hok hg hch
end
abbrev XK:=Value→Option Addr→Hp→Prop
abbrev St:=List (Option V)
abbrev VK:=V→Hp→Prop
abbrev TE:=St→Hp→VK→Prop
abbrev TT:=St→Hp→(Bool→Hp→Prop)→Prop
abbrev TA:=St→Hp→(List V→Hp→Prop)→Prop
structure Ends where
  nx:St→Hp→Prop
  rt:VK
  bk:St→Hp→Prop:=fun _ _=>False
  ct:St→Hp→Prop:=fun _ _=>False
abbrev TS:=Ends→St→Hp→Prop
def EP (X:Cx) (pins:List (Addr×Obj)) (σ:St) (Q:VK) (u:Value) (s':Shared):Prop:=∃v H',Inv X pins σ H' s'∧RelV v u∧Q v H'
def TP (X:Cx) (pins:List (Addr×Obj)) (σ:St) (Q:Bool→Hp→Prop) (b:Bool) (s':Shared):Prop:=∃H',Inv X pins σ H' s'∧Q b H'
def AP (X:Cx) (pins:List (Addr×Obj)) (σ:St) (Q:List V→Hp→Prop) (us:List Value) (s':Shared):Prop:=∃vs H',Inv X pins σ H' s'∧Vals vs us∧Q vs H'
def SP (X:Cx) (pins:List (Addr×Obj)) (D:Ends) (f:Flow) (s':Shared):Prop :=
  match f with
  | .next=>∃σ' H',Inv X pins σ' H' s'∧D.nx σ' H'
  | .brk=>∃σ' H',Inv X pins σ' H' s'∧D.bk σ' H'
  | .cont=>∃σ' H',Inv X pins σ' H' s'∧D.ct σ' H'
  | .ret u=>∃v σ' H',Inv X pins σ' H' s'∧RelV v u∧D.rt v H'
def PE (X:Cx) (e:Expr) (t:TE):Prop :=
  ∀(pins:List (Addr×Obj)) (s:Shared) (σ:St) (H:Hp) (Q:VK),Inv X pins σ H s→t σ H Q→wpAny (model X.prog X.w) X.A (eval e X.env) (EP X pins σ Q) X.xe s
def PT (X:Cx) (e:Expr) (t:TT):Prop :=
  ∀(pins:List (Addr×Obj)) (s:Shared) (σ:St) (H:Hp) (Q:Bool→Hp→Prop),Inv X pins σ H s→t σ H Q→wpAny (model X.prog X.w) X.A (isTrue e X.env (eval e X.env)) (TP X pins σ Q) X.xe s
def PW (X:Cx) (e:Expr) (t:TT):Prop :=
  ∀(whole:Sem Value) (pins:List (Addr×Obj)) (s:Shared) (σ:St) (H:Hp) (Q:Bool→Hp→Prop),Inv X pins σ H s→t σ H Q→wpAny (model X.prog X.w) X.A (isTrue e X.env whole) (TP X pins σ Q) X.xe s
theorem PW.pt (h:PW X e t):PT X e t:=h _
def PA (X:Cx) (es:List Expr) (t:TA):Prop :=
  ∀(pos:Pos) (pins:List (Addr×Obj)) (s:Shared) (σ:St) (H:Hp) (Q:List V→Hp→Prop),Inv X pins σ H s→t σ H Q→wpAny (model X.prog X.w) X.A (spliced (backTo pos (starEach es X.env))) (AP X pins σ Q) X.xe s
def PS (X:Cx) (st:Stmt) (t:TS):Prop :=
  ∀(pins:List (Addr×Obj)) (s:Shared) (σ:St) (H:Hp) (D:Ends),Inv X pins σ H s→t D σ H→wpAny (model X.prog X.w) X.A (exec st X.env) (SP X pins D) X.xe s
def PSs (X:Cx) (st:List Stmt) (t:TS):Prop :=
  ∀(pins:List (Addr×Obj)) (s:Shared) (σ:St) (H:Hp) (D:Ends),Inv X pins σ H s→t D σ H→wpAny (model X.prog X.w) X.A (execs st X.env) (SP X pins D) X.xe s
theorem thn (h:wpAny M A t Q E s) (hQ:∀a s,Q a s→Q' a s):wpAny M A t Q' E s:=wpAny_mono h hQ fun _ _ x=>x
end L2
namespace L2
open PySem PySem.Spec PyProof.Rows
section
variable {X:Cx}
def tVar (i:Nat):TE:=fun σ H Q=>∃v,σ[i]?=some (some v)∧Q v H
def tC (v:V):TE:=fun _ H Q=>Q v H
theorem pe_var (hN:X.N[i]?=some x) (hv:Vis X.env.scope x) (hd:(x == ("__debug__":Str))=false:=by decide) (hcd:(x == ("__classdict__":Str))=false:=by decide):PE X (.Name x pos) (tVar i):=by
  intro pins s σ H Q I h
  obtain⟨v,e,h⟩:=h
  obtain⟨m,hn,hl⟩:=I.loc
  obtain⟨u,r,l⟩:=hl i x v hN e hv
  have fin:EP X pins σ Q u s:=⟨v,H,I,r,h⟩
  rcases l with ⟨hk,hm⟩ | ⟨hk,c,hc,hcell⟩
  · exact wpAny_Name (wpAny_loadName_local I.ok.kind hk hn hm fin) hd
  · rcases hk with hk | hk
    · exact wpAny_Name (wpAny_loadName_cell I.ok.kind hk hc hcell fin) hd
    · exact wpAny_Name (wpAny_loadName_free I.ok.kind hk hc hcell fin hcd) hd
theorem pe_int {i j pos}:PE X (.Constant (.int i) j pos) (tC (.int i)):=fun _ _ _ H _ I h=>wpAny_Constant_int ⟨.int i,H,I.tok _,⟨_,rfl⟩,h⟩
theorem pe_bl {b j pos}:PE X (.Constant (.bool b) j pos) (tC (.bl b)):=fun _ _ _ H _ I h=>Constant_bool ⟨.bl b,H,I,rfl,h⟩
theorem pe_non {j pos}:PE X (.Constant .none j pos) (tC .non):=fun _ _ _ H _ I h=>Constant_none ⟨.non,H,I,rfl,h⟩
theorem pe_str {x j pos}:PE X (.Constant (.str x) j pos) (tC (.str x)):=fun _ _ _ H _ I h=>Calls.Constant_str ⟨.str x,H,I.tok _,⟨_,rfl⟩,h⟩
def Gl (X:Cx) (x:Str):Prop:=X.env.kindOf x=some .globalImplicit
theorem ld_glob (I:Inv X pins σ H s) (hg:Gl X x) (hm:X.mg x=some u) (h:Q u s)
    (hd:(x == ("__debug__":Str))=false:=by decide):wpAny (model X.prog X.w) X.A (eval (.Name x pos) X.env) Q E s :=
  Calls.Name_function_global I.ok.kind hg (Calls.loadGlobal_global (by rw[I.ok.glob];exact I.mod.glob.keeps I.bk) hm h) hd
theorem ld_blt (I:Inv X pins σ H s) (hg:Gl X x) (hm:X.mg x=none) (hv:bootBuiltins x=some u) (h:Q u s)
    (hn:x≠"__name__":=by decide) (hd:(x == ("__debug__":Str))=false:=by decide):wpAny (model X.prog X.w) X.A (eval (.Name x pos) X.env) Q E s:=by
  obtain⟨mb,h1,h2⟩:=I.mod.blt
  exact Calls.Name_function_global I.ok.kind hg (Calls.loadGlobal_builtin (by rw[I.ok.glob];exact I.mod.glob.keeps I.bk) hm (by rw[I.ok.blt];exact h1.keeps I.bk) ((h2 x hn).trans hv) h) hd
theorem pe_glob (hg:Gl X x) (hm:X.mg x=some u) (r:RelV v u) (hd:(x == ("__debug__":Str))=false:=by decide):PE X (.Name x pos) (tC v) :=
  fun _ _ _ H _ I h=>ld_glob I hg hm ⟨v,H,I,r,h⟩ hd
theorem pe_bltn (hg:Gl X x) (hm:X.mg x=none) (hv:bootBuiltins x=some u) (r:RelV v u) (hn:x≠"__name__":=by decide) (hd:(x == ("__debug__":Str))=false:=by decide):PE X (.Name x pos) (tC v) :=
  fun _ _ _ H _ I h=>ld_blt I hg hm hv ⟨v,H,I,r,h⟩ hn hd
def t2I (ta tb:TE) (k:Int→Int→Hp→Prop):St→Hp→Prop:=fun σ H=>ta σ H fun x H1=>tb σ H1 fun y H2=>∃i j,x = .int i∧y = .int j∧k i j H2
def tAdd (ta tb:TE):TE:=fun σ H Q=>t2I ta tb (fun i j H2=>Q (.int (i+j)) H2) σ H
def tSub (ta tb:TE):TE:=fun σ H Q=>t2I ta tb (fun i j H2=>Q (.int (i-j)) H2) σ H
def tMul (ta tb:TE):TE:=fun σ H Q=>t2I ta tb (fun i j H2=>(-(2^64)<i∧i<2^64)∧Q (.int (i*j)) H2) σ H
variable {a b:Expr}{ta tb:TE}{pos:Pos}
def PC (X:Cx) (op:CmpOp) (a b:Expr) (t:TE):Prop :=
  ∀(pins:List (Addr×Obj)) (s:Shared) (σ:St) (H:Hp) (Q:VK),Inv X pins σ H s→t σ H Q →
    wpAny (model X.prog X.w) X.A (eval a X.env) (fun v s₁=>wpAny (model X.prog X.w) X.A (eval b X.env) (fun u s₂=>wpAny (model X.prog X.w) X.A (compareOp op v u) (EP X pins σ Q) X.xe s₂) X.xe s₁) X.xe s
def tCmp (p:Int→Int→Bool) (ta tb:TE):TE:=fun σ H Q=>t2I ta tb (fun i j H2=>Q (.bl (p i j)) H2) σ H
abbrev tLt:TE→TE→TE:=tCmp fun i j=>decide (i<j)
abbrev tLe:TE→TE→TE:=tCmp fun i j=>decide (i≤j)
abbrev tGt:TE→TE→TE:=tCmp fun i j=>decide (j<i)
abbrev tGe:TE→TE→TE:=tCmp fun i j=>decide (j≤i)
abbrev tEqI:TE→TE→TE:=tCmp fun i j=>decide (i=j)
abbrev tNeI:TE→TE→TE:=tCmp fun i j=>!decide (i=j)
def tIsN (ta:TE):TE:=fun σ H Q=>ta σ H fun x H1=>Q (.bl (decide (x = .non))) H1
def tNotN (ta:TE):TE:=fun σ H Q=>ta σ H fun x H1=>Q (.bl (!decide (x = .non))) H1
def tB (t:TE):TT:=fun σ H Q=>t σ H fun x H1=>∃c,x = .bl c∧Q c H1
theorem pt_val (h:PE X e t) (he:∀whole,isTrue e X.env whole=(do let v ← whole;standAt e.pos;holding [v] (truthy v)):=by intro _;rfl):PT X e (tB t):=by
  intro pins s σ H Q I hw
  refine isTrue_plain (thn (h pins s σ H _ I hw) fun v s1 ⟨x,H1,I1,r1,q1⟩=>?_) (he _)
  obtain⟨d,rfl,q⟩:=q1
  cases r1
  exact wpAny_truthy_bool ⟨H1,I1,q⟩
variable {tA tB':TT}{rest:List Expr}
def tAnd (t u:TT):TT:=fun σ H Q=>t σ H fun c H1=>if c=true then u σ H1 Q else Q false H1
def tOr (t u:TT):TT:=fun σ H Q=>t σ H fun c H1=>if c=true then Q true H1 else u σ H1 Q
def tNot (t:TT):TT:=fun σ H Q=>t σ H fun c H1=>Q (!c) H1
theorem pw_and1 (ha:PT X a tA):PW X (.BoolOp .And [a] pos) tA:=by
  intro wh pins s σ H Q I h
  refine isTrue_and (thn (ha pins s σ H Q I h) fun c s1 e=>?_)
  cases c with
  | true=>exact isTrue_and_nil e
  | false=>exact e
theorem pw_or1 (ha:PT X a tA):PW X (.BoolOp .Or [a] pos) tA:=by
  intro wh pins s σ H Q I h
  refine isTrue_or (thn (ha pins s σ H Q I h) fun c s1 e=>?_)
  cases c with
  | false=>exact isTrue_or_nil e
  | true=>exact e
theorem pw_and (ha:PT X a tA) (hb:PW X (.BoolOp .And (b::rest) pos) tB'):PW X (.BoolOp .And (a::b::rest) pos) (tAnd tA tB'):=by
  intro wh pins s σ H Q I h
  refine isTrue_and (thn (ha pins s σ H _ I h) fun c s1 ⟨H1,I1,q1⟩=>?_)
  cases c with
  | true=>exact hb wh pins s1 σ H1 Q I1 q1
  | false=>exact⟨H1,I1,q1⟩
theorem pw_or (ha:PT X a tA) (hb:PW X (.BoolOp .Or (b::rest) pos) tB'):PW X (.BoolOp .Or (a::b::rest) pos) (tOr tA tB'):=by
  intro wh pins s σ H Q I h
  refine isTrue_or (thn (ha pins s σ H _ I h) fun c s1 ⟨H1,I1,q1⟩=>?_)
  cases c with
  | true=>exact⟨H1,I1,q1⟩
  | false=>exact hb wh pins s1 σ H1 Q I1 q1
theorem pt_not (ha:PT X a tA):PT X (.UnaryOp .Not a pos) (tNot tA):=by
  intro pins s σ H Q I h
  exact isTrue_not (ha pins s σ H (fun c H1=>Q (!c) H1) I h)
def tAndV (ta tb:TE):TE:=fun σ H Q=>ta σ H fun x H1=>∃c,x = .bl c∧if c=true then tb σ H1 Q else Q (.bl false) H1
def tOrV (ta tb:TE):TE:=fun σ H Q=>ta σ H fun x H1=>∃c,x = .bl c∧if c=true then Q (.bl true) H1 else tb σ H1 Q
def tNotV (ta:TE):TE:=fun σ H Q=>ta σ H fun x H1=>∃c,x = .bl c∧Q (.bl (!c)) H1
theorem pe_one {op}{t:TE} (h:PE X a t):PE X (.BoolOp op [a] pos) t:=fun pins s σ H Q I hw=>BoolOp_one (h pins s σ H Q I hw)
theorem pe_and (ha:PE X a ta) (hb:PE X (.BoolOp .And (b::rest) pos) tb):PE X (.BoolOp .And (a::b::rest) pos) (tAndV ta tb):=by
  intro pins s σ H Q I h
  refine BoolOp_and (thn (ha pins s σ H _ I h) fun v s1 ⟨x,H1,I1,r1,q1⟩=>?_)
  obtain⟨c,rfl,q1⟩:=q1
  cases r1
  refine wpAny_truthy_bool ?_
  cases c with
  | true=>exact hb pins s1 σ H1 Q I1 q1
  | false=>exact⟨.bl false,H1,I1,rfl,q1⟩
theorem pe_or (ha:PE X a ta) (hb:PE X (.BoolOp .Or (b::rest) pos) tb):PE X (.BoolOp .Or (a::b::rest) pos) (tOrV ta tb):=by
  intro pins s σ H Q I h
  refine BoolOp_or (thn (ha pins s σ H _ I h) fun v s1 ⟨x,H1,I1,r1,q1⟩=>?_)
  obtain⟨c,rfl,q1⟩:=q1
  cases r1
  refine wpAny_truthy_bool ?_
  cases c with
  | false=>exact hb pins s1 σ H1 Q I1 q1
  | true=>exact⟨.bl true,H1,I1,rfl,q1⟩
theorem pe_not (ha:PE X a ta):PE X (.UnaryOp .Not a pos) (tNotV ta):=by
  intro pins s σ H Q I h
  refine UnaryOp_ (thn (ha pins s σ H _ I h) fun v s1 ⟨x,H1,I1,r1,q1⟩=>?_)
  obtain⟨c,rfl,q1⟩:=q1
  cases r1
  exact not_of (wpAny_truthy_bool ⟨.bl (!c),H1,I1,rfl,q1⟩)
def tIf (t:TT) (ta tb:TE):TE:=fun σ H Q=>t σ H fun c H1=>if c=true then ta σ H1 Q else tb σ H1 Q
theorem pe_ifExp (hc:PT X c tA) (ha:PE X a ta) (hb:PE X b tb):PE X (.IfExp c a b pos) (tIf tA ta tb):=by
  intro pins s σ H Q I h
  refine wpAny_IfExp (thn (hc pins s σ H _ I h) fun d s1 ⟨H1,I1,q1⟩=>?_)
  cases d with
  | true=>exact ha pins s1 σ H1 Q I1 q1
  | false=>exact hb pins s1 σ H1 Q I1 q1
end
end L2
namespace L2
open PySem PySem.Spec PyProof.Rows
def SqL (K:PySem.W.Frag) (H:Hp) (a:Addr) (xs:List V):Prop :=
  Rd H a (.lst xs) ∨
    ∃(o:Obj) (its:Array Value) (n:Nat),K.lookup a=some o∧o.cls = .type "list"∧o.dict=none∧o.data = .seq its n∧its.size≤sizeLine∧Vals xs its.toList
def SqT (K:PySem.W.Frag) (H:Hp) (a:Addr) (xs:List V):Prop :=
  Rd H a (.tup xs) ∨
    ∃(o:Obj) (its:Array Value) (n:Nat),K.lookup a=some o∧o.cls = .type "tuple"∧o.data = .seq its n∧its.size≤sizeLine∧Vals xs its.toList
def absV:Value→Option V
  | .none=>some .non
  | .bool b=>some (.bl b)
  | .int i _=>some (.int i)
  | .str x _=>some (.str x)
  | .bytes b _=>some (.byt b)
  | .float b _=>some (.flt b)
  | .ref a=>some (.ref a)
  | .type n=>some (.ty n)
  | _=>none
theorem RelV.abs (r:RelV x u):absV u=some x:=by
  cases x with
  | non=>cases r;rfl
  | bl _=>cases r;rfl
  | int _=>obtain⟨t,rfl⟩:=r;rfl
  | str _=>obtain⟨t,rfl⟩:=r;rfl
  | byt _=>obtain⟨t,rfl⟩:=r;rfl
  | flt _=>obtain⟨t,rfl⟩:=r;rfl
  | ref _=>cases r;rfl
  | ty _=>cases r;rfl
theorem RelV.inj (r:RelV x u) (q:RelV y u):x=y:=Option.some.inj (r.abs.symm.trans q.abs)
theorem Vals.inj:∀{xs ys:List V}{us:List Value},Vals xs us→Vals ys us→xs=ys
  | _,_,_,.nil,.nil=>rfl
  | _,_,_,.cons r t,.cons r' t'=>by rw[r.inj r',Vals.inj t t']
section
variable {X:Cx}{pins:List (Addr×Obj)}{σ:St}{H:Hp}{s:Shared}{a:Addr}{xs ys:List V}
theorem SqL.of {K:PySem.W.Frag} (h:H a=some (.lst xs)):SqL K H a xs:=.inl (.inl h)
theorem SqT.of {K:PySem.W.Frag} (h:H a=some (.tup xs)):SqT K H a xs:=.inl (.inl h)
theorem Inv.list (I:Inv X pins σ H s) (h:SqL X.K H a xs):∃its:List Value,Vals xs its∧PlainL s.heap a its.toArray∧xs.length≤sizeLine:=by
  rcases h with h | ⟨o,its,n,hk,hc,hd,hs,hz,r⟩
  · obtain⟨z,its,n,r,e⟩:=h.ok I.hok
    exact⟨its,r,⟨_,n,e,rfl,rfl,rfl⟩,z⟩
  · refine⟨its.toList,r,⟨o,n,I.kIn a o hk,hc,hd,by simpa using hs⟩,?_⟩
    have e:=r.length
    simp only[Array.length_toList] at e
    omega
theorem Inv.tuple (I:Inv X pins σ H s) (h:SqT X.K H a xs):∃its:List Value,Vals xs its∧IsTup s.heap a its.toArray∧xs.length≤sizeLine:=by
  rcases h with h | ⟨o,its,n,hk,hc,hs,hz,r⟩
  · obtain⟨z,its,r,p⟩:=h.ok I.hok
    exact⟨its,r,p,z⟩
  · refine⟨its.toList,r,⟨o,I.kIn a o hk,hc,n,by simpa using hs⟩,?_⟩
    have e:=r.length
    simp only[Array.length_toList] at e
    omega
theorem Inv.list_inj (I:Inv X pins σ H s) (h:SqL X.K H a xs) (h':SqL X.K H a ys):xs=ys:=by
  obtain⟨its,r,⟨o,n,e,_,_,d⟩,_⟩:=I.list h
  obtain⟨its',r',⟨o',n',e',_,_,d'⟩,_⟩:=I.list h'
  rw[e] at e';cases e'
  rw[d] at d'
  injection d' with d1 _
  have:its=its':=by simpa using congrArg Array.toList d1
  subst this
  exact r.inj r'
end
abbrev Cx.wish (X:Cx) (E:Value→Shared→Prop):Cx:={ X with xe:=E }
abbrev Cx.nox (X:Cx):Cx:=X.wish fun _ _=>False
theorem Cx.Ok.wish {X:Cx} (ok:X.Ok) (E:Value→Shared→Prop):(X.wish E).Ok :=
  ⟨ok.mod,ok.kind,ok.glob,ok.blt,ok.above,ok.inj,ok.has,ok.cab,ok.hd,ok.frames,ok.stk,ok.exf,ok.bs,ok.bsz,ok.noex,ok.exfs,ok.funs,ok.frf⟩
theorem Cx.Ok.unwish {X:Cx}{E:Value→Shared→Prop} (ok:(X.wish E).Ok):X.Ok :=
  ⟨ok.mod,ok.kind,ok.glob,ok.blt,ok.above,ok.inj,ok.has,ok.cab,ok.hd,ok.frames,ok.stk,ok.exf,ok.bs,ok.bsz,ok.noex,ok.exfs,ok.funs,ok.frf⟩
section
variable {X:Cx}{pins:List (Addr×Obj)}{σ:St}{H:Hp}{s:Shared}{E:Value→Shared→Prop}
theorem Inv.wish (I:Inv X pins σ H s) (E:Value→Shared→Prop):Inv (X.wish E) pins σ H s:=⟨I.ok.wish E,I.os,I.bare,I.base,I.loc,I.cell,I.free,I.freeC,I.pin,I.hok,I.len⟩
theorem Inv.unwish (I:Inv (X.wish E) pins σ H s):Inv X pins σ H s:=⟨I.ok.unwish,I.os,I.bare,I.base,I.loc,I.cell,I.free,I.freeC,I.pin,I.hok,I.len⟩
theorem SP.unwish (h:SP (X.wish E) pins D f s'):SP X pins D f s':=by
  cases f with
  | next=>obtain⟨σ',H',I,q⟩:=h;exact⟨σ',H',I.unwish,q⟩
  | brk=>obtain⟨σ',H',I,q⟩:=h;exact⟨σ',H',I.unwish,q⟩
  | cont=>obtain⟨σ',H',I,q⟩:=h;exact⟨σ',H',I.unwish,q⟩
  | ret u=>obtain⟨v,σ',H',I,r,q⟩:=h;exact⟨v,σ',H',I.unwish,r,q⟩
theorem PSs.nox {st:List Stmt}{t:TS} (h:PSs X.nox st t):PSs X st t:=fun pins s σ H D I hw =>
  wpAny_mono (h pins s σ H D (I.wish _) hw) (fun _ _ q=>q.unwish) fun _ _ z=>False.elim z
end
section
variable {X:Cx}{st:Stmt}{rest:List Stmt}{t u:TS}{e:Expr}{te:TE}{pos:Pos}
def tNext:TS:=fun D σ H=>D.nx σ H
def tSeq (t u:TS):TS:=fun D σ H=>t { D with nx:=u D } σ H
theorem pss_nil:PSs X [] tNext:=fun _ _ σ H _ I h=>wpAny_execs_nil ⟨σ,H,I,h⟩
theorem pss_cons (h1:PS X st t) (h2:PSs X rest u):PSs X (st::rest) (tSeq t u):=by
  intro pins s σ H D I h
  refine wpAny_execs_cons (thn (h1 pins s σ H { D with nx:=u D } I h) fun f s1 q=>?_)
  cases f with
  | next =>
    obtain⟨σ',H',I',q⟩:=q
    exact h2 pins s1 σ' H' D I' q
  | ret v=>exact q
  | brk=>exact q
  | cont=>exact q
theorem pss_one (h1:PS X st t):PSs X [st] t:=by
  intro pins s σ H D I h
  refine wpAny_execs_cons (thn (h1 pins s σ H D I h) fun f s1 q=>?_)
  cases f with
  | next=>exact wpAny_execs_nil q
  | ret v=>exact q
  | brk=>exact q
  | cont=>exact q
def tBreak:TS:=fun D σ H=>D.bk σ H
def tCont:TS:=fun D σ H=>D.ct σ H
theorem Inv.quiet (I:Inv X pins σ H s):interactive X.env=false:=by simp[interactive,I.ok.kind]
def tDrop (te:TE):TS:=fun D σ H=>te σ H fun _ H1=>D.nx σ H1
theorem ps_expr (he:PE X e te) (hs:swapsWith e none pos.line X.env=pure false:=by rfl):PS X (.Expr e pos) (tDrop te):=by
  intro pins s σ H D I h
  exact wpAny_Expr_any (thn (he pins s σ H _ I h) fun v s1 ⟨x,H1,I1,r1,q1⟩=>⟨σ,H1,I1,q1⟩) I.quiet hs
def tRet (te:TE):TS:=fun D σ H=>te σ H D.rt
theorem ps_ret (he:PE X e te):PS X (.Return (some e) pos) (tRet te):=by
  intro pins s σ H D I h
  exact wpAny_Return_some (thn (he pins s σ H _ I h) fun v s1 ⟨x,H1,I1,r1,q1⟩=>⟨x,σ,H1,I1,r1,q1⟩)
def tRetN:TS:=fun D _ H=>D.rt .non H
def tIfS (c:TT) (t u:TS):TS:=fun D σ H=>c σ H fun b H1=>if b=true then t D σ H1 else u D σ H1
theorem ps_if (hc:PT X c tc) (ha:PSs X a t) (hb:PSs X b u):PS X (.If c a b pos) (tIfS tc t u):=by
  intro pins s σ H D I h
  refine wpAny_If (thn (hc pins s σ H _ I h) fun d s1 ⟨H1,I1,q1⟩=>?_)
  cases d with
  | true=>exact ha pins s1 σ H1 D I1 q1
  | false=>exact hb pins s1 σ H1 D I1 q1
def tNever:TS:=fun _ _ _=>False
end
abbrev TG:=V→St→Hp→(St→Hp→Prop)→Prop
abbrev TGs:=List V→St→Hp→(St→Hp→Prop)→Prop
def PG (X:Cx) (target:Expr) (t:TG):Prop :=
  ∀(pins:List (Addr×Obj)) (s:Shared) (σ:St) (H:Hp) (v:V) (u:Value) (Q:St→Hp→Prop),Inv X pins σ H s→RelV v u→t v σ H Q →
    wpAny (model X.prog X.w) X.A (assign target X.env u) (fun _ s'=>∃σ' H',Inv X pins σ' H' s'∧Q σ' H') X.xe s
def PGs (X:Cx) (ts:List Expr) (t:TGs):Prop :=
  ∀(pins:List (Addr×Obj)) (s:Shared) (σ:St) (H:Hp) (vs:List V) (us:List Value) (Q:St→Hp→Prop),Inv X pins σ H s→Vals vs us→t vs σ H Q →
    wpAny (model X.prog X.w) X.A (assignInOrder ((assignEach ts X.env).map (·.2)) us) (fun _ s'=>∃σ' H',Inv X pins σ' H' s'∧Q σ' H') X.xe s
abbrev TSet:=V→V→V→Hp→(Hp→Prop)→Prop
def PSet (X:Cx) (t:TSet):Prop :=
  ∀(pins:List (Addr×Obj)) (s:Shared) (σ:St) (H:Hp) (o i v:V) (ov iv u:Value) (Q:Hp→Prop),Inv X pins σ H s→RelV o ov→RelV i iv→RelV v u→t o i v H Q →
    wpAny (model X.prog X.w) X.A (setItem ov iv u) (fun _ s'=>∃H',Inv X pins σ H' s'∧Q H') X.xe s
abbrev TIp:=V→V→Hp→VK→Prop
def PIp (X:Cx) (op:Operator) (t:TIp):Prop :=
  ∀(pins:List (Addr×Obj)) (s:Shared) (σ:St) (H:Hp) (x y:V) (v u:Value) (Q:VK),Inv X pins σ H s→RelV x v→RelV y u→t x y H Q →
    wpAny (model X.prog X.w) X.A (inplaceOp op v u) (EP X pins σ Q) X.xe s
section
variable {X:Cx}{pos:Pos}
def gName (i:Nat):TG:=fun v σ H Q=>Q (σ.set i (some v)) H
theorem pg_name (hN:X.N.Nodup) (hi:X.N[i]?=some x) (hx:Loc X.env.scope x) (hf:X.fn x=true∨X.env.scope.names.lookup x=some .local:=by first | exact .inl rfl | exact .inr rfl | assumption):PG X (.Name x pos) (gName i):=by
  intro pins s σ H v u Q I r h
  exact wpAny_assign_Name (store_ok I hN hi hx r (fun s' I'=>⟨_,H,I',h⟩) hf)
def gNil:TGs:=fun vs σ H Q=>vs=[]∧Q σ H
def gCons (t:TG) (u:TGs):TGs:=fun vs σ H Q=>∃v r,vs=v::r∧t v σ H fun σ' H'=>u r σ' H' Q
theorem pgs_nil:PGs X [] gNil:=by
  intro pins s σ H vs us Q I r h
  obtain⟨e,h⟩:=h
  subst e
  cases r
  exact assignInOrder_nil ⟨σ,H,I,h⟩
theorem pgs_cons (h1:PG X e t) (h2:PGs X es u)
    (hs:(assignEach (e::es) X.env).map (·.2)=assign e X.env::(assignEach es X.env).map (·.2):=by rfl):PGs X (e::es) (gCons t u):=by
  intro pins s σ H vs us Q I r h
  obtain⟨v,vr,e1,h⟩:=h
  subst e1
  cases r with
  | cons r rr =>
    rw[hs]
    refine assignInOrder_cons (thn (h1 pins s σ H _ _ _ I r h) fun _ s1 ⟨σ1,H1,I1,q1⟩=>?_)
    exact h2 pins s1 σ1 H1 _ _ Q I1 rr q1
def gTup (K:PySem.W.Frag) (n:Nat) (t:TGs):TG:=fun v σ H Q=>∃a xs,v = .ref a∧SqT K H a xs∧xs.length=n∧t xs σ H Q
theorem pg_tup (hc:X.calm=true) (h:PGs X es t)
    (hn:(assignEach es X.env).length=n:=by rfl) (hst:(assignEach es X.env).findIdx? (·.1)=none:=by rfl):PG X (.Tuple es k pos) (gTup X.K n t):=by
  intro pins s σ H v u Q I r hw
  obtain⟨a,xs,e1,hq,hl,hw⟩:=hw
  subst e1
  cases r
  obtain⟨its,rv,ht,hz⟩:=I.tuple hq
  refine assign_Tuple_tuple (I.ok.hd hc) ht (by simp[hn,← hl,rv.length]) hst fun h' hx=>?_
  have I1:Inv X pins σ H { s with heap:=h' }:=I.kept (t':=s.toks) fun b o e=>hx b o (Nat.ne_of_lt (Heap.lt_size e)) e
  exact h pins _ σ H xs _ Q I1 (by simpa using rv) hw
def gSub (to ti:TE) (t:TSet):TG:=fun v σ H Q=>to σ H fun o H1=>ti σ H1 fun i H2=>t o i v H2 fun H3=>Q σ H3
def tAsg (te:TE) (g:TG):TS:=fun D σ H=>te σ H fun x H1=>g x σ H1 D.nx
theorem ps_set (hN:X.N.Nodup) (hi:X.N[i]?=some x) (hx:Loc X.env.scope x) (he:PE X e te) (hs:swapsWith e (some (.Name x pos')) pos.line X.env=pure false:=by rfl) (hf:X.fn x=true∨X.env.scope.names.lookup x=some .local:=by first | exact .inl rfl | exact .inr rfl | assumption) :
    PS X (.Assign [.Name x pos'] e pos) (tAsg te (gName i)):=by
  intro pins s σ H D I h
  refine wpAny_Assign_Name (thn (he pins s σ H _ I h) fun v s1 ⟨y,H1,I1,r1,q1⟩=>?_) hs
  exact store_ok I1 hN hi hx r1 (fun s2 I2=>⟨_,H1,I2,q1⟩) hf
def tPar (i j:Nat) (ta:TA):TS:=fun D σ H=>ta σ H fun vs H1=>∃v w,vs=[v,w]∧D.nx ((σ.set i (some v)).set j (some w)) H1
def tAug (i:Nat) (te:TE) (ti:TIp):TS:=fun D σ H=>∃x,σ[i]?=some (some x)∧te σ H fun y H1=>ti x y H1 fun z H2=>D.nx (σ.set i (some z)) H2
def tAugS (to ti te:TE) (tget:V→V→Hp→VK→Prop) (tip:TIp) (tset:TSet):TS:=fun D σ H=>to σ H fun o H1=>ti σ H1 fun i H2=>tget o i H2 fun x H3=>te σ H3 fun y H4=>tip x y H4 fun z H5=>tset o i z H5 fun H6=>D.nx σ H6
def PGet (X:Cx) (t:V→V→Hp→VK→Prop):Prop :=
  ∀(pins:List (Addr×Obj)) (s:Shared) (σ:St) (H:Hp) (o i:V) (ov iv:Value) (Q:VK),Inv X pins σ H s→RelV o ov→RelV i iv→t o i H Q →
    wpAny (model X.prog X.w) X.A (getItem ov iv) (EP X pins σ Q) X.xe s
def ipI (f:Int→Int→Int):TIp:=fun x y H Q=>∃i j,x = .int i∧y = .int j∧Q (.int (f i j)) H
end
section
variable {X:Cx}{pos:Pos}
def tWhile (c:TT) (tb:TS):TS:=fun D σ H=>∃W:Nat→St→Hp→Prop,(∃m,W m σ H)∧∀m σ H,W m σ H →
  c σ H fun b H1=>if b=true then ∃N:St→Hp→Prop,(∀σ' H',N σ' H'→∃m',m'<m∧W m' σ' H')∧tb { D with nx:=N,ct:=N,bk:=D.nx } σ H1 else D.nx σ H1
end
structure It where
  go:Nat→Hp→Prop
  yld:Nat→Hp→V→Hp→Prop
  stop:Nat→Hp→Prop
def FpOk (X:Cx) (pins:List (Addr×Obj)) (H:Hp) (b:Addr):Prop :=
  H b=none∧b≠X.env.locals∧b∉X.fs∧(b∈X.ex∨X.s₀.heap.objs.size≤b)∧(∀x c,X.env.cells.lookup x=some c→c≠b)∧∀p∈X.pn++pins,p.1≠b
theorem Inv.fpOk (I:Inv X pins σ H s) (hb:s.heap.objs.size≤b) (hn:H' b=none):FpOk X pins H' b:=by
  refine⟨hn,Nat.ne_of_gt (Nat.lt_of_lt_of_le I.lt hb),I.nofs hb,.inr (Nat.le_trans I.sz hb),fun x c e z=>?_,fun p hp z=>?_⟩
  · obtain⟨v,q⟩:=I.cell x c e
    exact absurd (Nat.lt_of_lt_of_le q.lt (by rw[z];exact hb)) (Nat.lt_irrefl _)
  · exact absurd (Nat.lt_of_lt_of_le (Heap.lt_size (I.pin p hp).1) (by rw[z];exact hb)) (Nat.lt_irrefl _)
structure Turn (P:Program) (w:World) (K:PySem.W.Frag) (tg:Expr) (J:It) (fp:List Addr) (it:Addr) (tn:Nat→Heap→Prop):Prop where
  mem:it∈fp
  obj:∀i h,tn i h→∀b∈fp,∃o,h.get? b=some o∧∀v,o.data≠.cell v
  keep:∀i h h',tn i h→(∀b∈fp,∀o,h.get? b=some o→h'.get? b=some o)→tn i h'
  item:∀(X:Cx),X.prog=P→X.w=w→X.K=K→X.calm=true→∀(i:Nat) (pins:List (Addr×Obj)) (s:Shared) (σ:St) (H:Hp) (E:Value→Shared→Prop),Inv X pins σ H s→(∀b∈fp,FpOk X pins H b)→tn i s.heap→J.go i H →
    wpAny (model P w) X.A (pyNext (.ref it)) (fun r s1=>∃u,r=some u ∧
      wpAny (model P w) X.A (letOwnedTupleGo tg (.ref it) u) (fun _ s2=>∃x H',Inv X pins σ H' s2∧RelV x u∧J.yld i H x H'∧tn (i+1) s2.heap∧∀b∈fp,H' b=none) E s1) E s
  done:∀(X:Cx),X.prog=P→X.w=w→X.K=K→X.calm=true→∀(i:Nat) (pins:List (Addr×Obj)) (s:Shared) (σ:St) (H:Hp) (E:Value→Shared→Prop),Inv X pins σ H s→(∀b∈fp,FpOk X pins H b)→tn i s.heap→J.stop i H →
    wpAny (model P w) X.A (pyNext (.ref it)) (fun r s1=>r=none∧Inv X pins σ H s1) E s
  self:∀(A:Around) (i:Nat) (s:Shared) (Q:Value→Shared→Prop) (E:Value→Shared→Prop),tn i s.heap→Q (.ref it) s→wpAny (model P w) A (pyIter (.ref it)) Q E s
abbrev TI:=St→Hp→(It→Hp→Prop)→Prop
def PIE (X:Cx) (pins:List (Addr×Obj)) (σ:St) (tg:Expr) (R:It→Hp→Prop) (itv:Value) (s2:Shared):Prop :=
  ∃(it:Addr) (fp:List Addr) (tn:Nat→Heap→Prop) (J:It) (H':Hp),itv = .ref it∧Inv X pins σ H' s2∧Turn X.prog X.w X.K tg J fp it tn∧tn 0 s2.heap∧(∀b∈fp,FpOk X pins H' b)∧R J H'
def PI (X:Cx) (tg iter:Expr) (wi:TI):Prop :=
  ∀(pins:List (Addr×Obj)) (s:Shared) (σ:St) (H:Hp) (R:It→Hp→Prop),Inv X pins σ H s→wi σ H R →
    wpAny (model X.prog X.w) X.A (eval iter X.env) (fun v s1=>wpAny (model X.prog X.w) X.A (pyIter v) (PIE X pins σ tg R) X.xe s1) X.xe s
theorem go_of (ho:s.heap.get? it=some o) (hc:o.cls = .type n) (hd:o.data = .fields vs)
    (hn:["enumerate","zip","dict_itemiterator","dict_reverseitemiterator","odict_iterator","itertools.zip_longest","itertools.pairwise"].contains n=false) (hQ:Q () s):wpAny M A (letOwnedTupleGo tg (.ref it) u) Q E s:=by
  unfold letOwnedTupleGo
  cases tg <;> first
    | exact wpAny_pure hQ
    | (cases u <;> first
        | exact wpAny_pure hQ
        | (refine wpAny_bind (wpAny_load ho ?_)
           rw[hc,hd]
           show wpAny M A (if (["enumerate","zip","dict_itemiterator","dict_reverseitemiterator","odict_iterator","itertools.zip_longest","itertools.pairwise"].contains n&&vs[0]? == some (rawInt _))=true then _ else _) Q E s
           rw[if_neg (by intro h;rw[hn,Bool.false_and] at h;cases h)]
           exact wpAny_pure hQ))
def Itl (K:PySem.W.Frag) (a:Addr):It :=
  ⟨fun i H=>∃xs x,SqL K H a xs∧xs[i]?=some x,fun i H x H'=>H'=H∧∀xs,SqL K H a xs→xs[i]?=some x,fun i H=>∃xs,SqL K H a xs∧xs.length≤i⟩
def Itt (K:PySem.W.Frag) (a:Addr):It :=
  ⟨fun i H=>∃xs x,SqT K H a xs∧xs[i]?=some x,fun i H x H'=>H'=H∧∀xs,SqT K H a xs→xs[i]?=some x,fun i H=>∃xs,SqT K H a xs∧xs.length≤i⟩
def Itr (lo:Int) (n:Nat):It:=⟨fun i _=>i<n,fun i H x H'=>H'=H∧x = .int (lo+i),fun i _=>n≤i⟩
theorem turn_list {P:Program}{w:World}{K:PySem.W.Frag}{tg:Expr} (a it:Addr):Turn P w K tg (Itl K a) [it] it (fun i h=>h.IsListIter it a i) where
  mem:=by simp
  obj:=fun i h st b hb=>by
    have e:b=it:=by simpa using hb
    subst e
    obtain⟨o,e,c,d⟩:=st
    exact⟨o,e,fun v z=>by rw[d] at z;cases z⟩
  keep:=fun i h h' st k=>st.at fun o e=>k it (by simp) o e
  item:=by
    intro X hP hw hK hc i pins s σ H E I hf st hg
    subst hP hw hK
    obtain⟨xs,x,hq,hx⟩:=hg
    obtain⟨its,rv,p,hz⟩:=I.list hq
    obtain⟨u,hu,ru⟩:=rv.get hx
    obtain⟨f0,f1,f2,f3,f4,f5⟩:=hf it (by simp)
    refine wpAny_pyNext_list_item st p.isList (x:=u) (by simpa using hu) fun h' st' sb=>?_
    have I1:Inv X pins σ H { s with heap:=h' }:=I.turned (t':=s.toks) (fun b o hb e=>(sb.2 b hb).trans e) f0 f1 f3 f4 f5
    obtain⟨o,e,c,d⟩:=id st'
    exact⟨u,rfl,go_of (s:={ s with heap:=h' }) e c d (by decide) ⟨x,H,I1,ru,⟨rfl,fun ys hy=>by rw[I.list_inj hy hq];exact hx⟩,st',fun b hb=>(hf b hb).1⟩⟩
  done:=by
    intro X hP hw hK hc i pins s σ H E I hf st hg
    subst hP hw hK
    obtain⟨xs,hq,hx⟩:=hg
    obtain⟨its,rv,p,hz⟩:=I.list hq
    obtain⟨f0,f1,f2,f3,f4,f5⟩:=hf it (by simp)
    have hl:=rv.length
    exact wpAny_pyNext_list_end (I.ok.hd hc) st p.isList (by simp;omega) fun h' eb=>⟨rfl,I.turned (t':=s.toks) (fun b o hb e=>eb b o hb e) f0 f1 f3 f4 f5⟩
  self:=fun _ _ _ _ _ st h=>wpAny_pyIter_listiter st h
theorem turn_range {P:Program}{w:World}{K:PySem.W.Frag}{tg:Expr} (it:Addr) (lo:Int) (n:Nat):Turn P w K tg (Itr lo n) [it] it (fun i h=>IsRangeIter h it (lo+(i:Nat)*1) ((n:Int)-(i:Nat)) 1) where
  mem:=by simp
  obj:=fun i h st b hb=>by
    have e:b=it:=by simpa using hb
    subst e
    exact⟨_,st,fun v z=>by
      have z':Data.fields _=Data.cell v:=z
      cases z'⟩
  keep:=fun i h h' st k=>k it (by simp) _ st
  item:=by
    intro X hP hw hK hc i pins s σ H E I hf st hg
    subst hP hw hK
    obtain⟨f0,f1,f2,f3,f4,f5⟩:=hf it (by simp)
    have W:=Walks.range (prog:=X.prog) (w:=X.w) (I.ok.hd hc) it lo 1 n
    refine W.item i s _ _ hg st fun v h' tk hv st' kk=>?_
    obtain⟨t,rfl⟩:=hv
    have I1:Inv X pins σ H { s with heap:=h',toks:=tk }:=I.turned (fun b o hb e=>kk b o (by simpa using hb) e) f0 f1 f3 f4 f5
    refine⟨_,rfl,go_of (s:={ s with heap:=h',toks:=tk }) (n:="range_iterator") st' rfl rfl (by decide) ⟨.int (lo+i),H,I1,⟨t,?_⟩,⟨rfl,rfl⟩,st',fun b hb=>(hf b hb).1⟩⟩
    rw[Int.mul_one]
  done:=by
    intro X hP hw hK hc i pins s σ H E I hf st hg
    subst hP hw hK
    obtain⟨f0,f1,f2,f3,f4,f5⟩:=hf it (by simp)
    exact wpAny_pyNext_range_end (I.ok.hd hc) st (by have:n≤i:=hg;omega) fun h' eb=>⟨rfl,I.turned (t':=s.toks) (fun b o hb e=>eb b o hb e) f0 f1 f3 f4 f5⟩
  self:=fun _ _ _ _ _ st h=>wpAny_pyIter_rangeiter st h
end L2
namespace L2
open PySem PySem.Spec PyProof.Rows
section
variable {X:Cx}{tg:Expr}
def iList (K:PySem.W.Frag) (tl:TE):TI:=fun σ H R=>tl σ H fun x H1=>∃a,x = .ref a∧(∃xs,SqL K H1 a xs)∧R (Itl K a) H1
def iTup (K:PySem.W.Frag) (tl:TE):TI:=fun σ H R=>tl σ H fun x H1=>∃a,x = .ref a∧(∃xs,SqT K H1 a xs)∧R (Itt K a) H1
theorem pi_list {l:Expr}{tl:TE} (hl:PE X l tl):PI X tg l (iList X.K tl):=by
  intro pins s σ H R I h
  refine thn (hl pins s σ H _ I h) fun v s1 ⟨x,H1,I1,r1,q1⟩=>?_
  obtain⟨a,e,⟨xs,hq⟩,q⟩:=q1
  subst e
  cases r1
  obtain⟨its,rv,p,hz⟩:=I1.list hq
  refine wpAny_pyIter_list p.isList ?_
  refine⟨s1.heap.objs.size,[s1.heap.objs.size],_,_,H1,rfl,I1.kept (t':=s1.toks) fun b o e=>Heap.get?_push_of_some _ e,turn_list a _,⟨_,Heap.get?_push_size _ rfl,rfl,rfl⟩,fun b hb=>?_,q⟩
  have e:b=s1.heap.objs.size:=by simpa using hb
  subst e
  exact I1.fpOk (Nat.le_refl _) (I1.hok.fresh (Nat.le_refl _))
theorem range_it {pins:List (Addr×Obj)}{σ:St}{H:Hp}{s:Shared}{R:It→Hp→Prop}{E:Value→Shared→Prop}{lo hi:Int}{t u v:Tok}{tk:Nat} (I:Inv X pins σ H s) (h1:-(2^62)≤lo) (h2:lo<2^62) (h3:-(2^62)≤hi) (h4:hi<2^62)
    (q:R (Itr lo (hi-lo).toNat) H):wpAny (model X.prog X.w) X.A (pyIter (.ref s.heap.objs.size)) (PIE X pins σ tg R) E { s with heap:=s.heap.push { cls:=.type "range",data:=.fields #[.int lo t,.int hi u,.int 1 v] },toks:=tk }:=by
  refine wpAny_pyIter_range (IsRange.new ..) (small_one h1 h2 h3 h4) ?_
  have I1:Inv X pins σ H { s with heap:=s.heap.push { cls:=.type "range",data:=.fields #[.int lo t,.int hi u,.int 1 v] },toks:=tk }:=I.kept fun b o e=>Heap.get?_push_of_some _ e
  refine⟨(s.heap.push { cls:=.type "range",data:=.fields #[.int lo t,.int hi u,.int 1 v] }).objs.size,[(s.heap.push { cls:=.type "range",data:=.fields #[.int lo t,.int hi u,.int 1 v] }).objs.size],_,_,H,rfl,
    I1.kept (t':=tk) fun b o e=>Heap.get?_push_of_some _ e,turn_range _ lo (hi-lo).toNat,?_,fun b hb=>?_,q⟩
  · have e1:lo+((0:Nat):Int)*1=lo:=by simp
    have e2:(((hi-lo).toNat:Nat):Int)-((0:Nat):Int)=Builtin.Range.rangeSize lo hi 1:=by rw[rangeSize_one];split <;> omega
    show IsRangeIter _ _ (lo+((0:Nat):Int)*1) ((((hi-lo).toNat:Nat):Int)-((0:Nat):Int)) 1
    rw[e1,e2]
    exact Heap.get?_push_size _ rfl
  · have e:b=(s.heap.push { cls:=.type "range",data:=.fields #[.int lo t,.int hi u,.int 1 v] }).objs.size:=by simpa using hb
    subst e
    exact I1.fpOk (Nat.le_refl _) (I1.hok.fresh (Nat.le_refl _))
def iRng1 (ta:TA):TI:=fun σ H R=>ta σ H fun vs H1=>∃j:Int,vs=[.int j]∧-(2^62)≤j∧j<2^62∧R (Itr 0 j.toNat) H1
def iRng2 (ta:TA):TI:=fun σ H R=>ta σ H fun vs H1=>∃i j:Int,vs=[.int i,.int j]∧(-(2^62)≤i∧i<2^62∧-(2^62)≤j∧j<2^62)∧R (Itr i (j-i).toNat) H1
theorem pi_range1 {a:Expr}{ta:TA}{p pos:Pos} (hg:Gl X "range") (hm:X.mg "range"=none) (ha:PA X [a] ta) (hs:starEach [a] X.env=[(false,eval a X.env)]:=by rfl):PI X tg (.Call (.Name "range" p) [a] [] pos) (iRng1 ta):=by
  intro pins s σ H R I h
  refine Call_ (ld_blt I hg hm boot_range (PyProof.Rows.callWith_type1 (thn (ha pos pins s σ H _ I h) fun us s1 ⟨vs,H1,I1,r1,q1⟩=>?_) hs rfl))
  obtain⟨j,e,q1,q2,q⟩:=q1
  subst e
  cases r1 with
  | cons r rr =>
    cases rr
    obtain⟨t,rfl⟩:=r
    exact call_range_1 (range_it I1 (by omega) (by omega) q1 q2 (by simpa using q))
theorem pi_range2 (hg:Gl X "range") (hm:X.mg "range"=none) (ha:PA X [a,b] ta) (hs:starEach [a,b] X.env=[(false,eval a X.env),(false,eval b X.env)]:=by rfl) (hs2:starEach [b] X.env=[(false,eval b X.env)]:=by rfl) :
    PI X tg (.Call (.Name "range" p) [a,b] [] pos) (iRng2 ta):=by
  intro pins s σ H R I h
  refine Call_ (ld_blt I hg hm boot_range (PyProof.Rows.callWith_type1 (thn (ha pos pins s σ H _ I h) fun us s1 ⟨vs,H1,I1,r1,q1⟩=>?_) (by rw[hs,hs2]) (by rw[hs2];rfl)))
  obtain⟨i,j,e,⟨q1,q2,q3,q4⟩,q⟩:=q1
  subst e
  cases r1 with
  | cons r rr =>
    cases rr with
    | cons r' rr =>
      cases rr
      obtain⟨t,rfl⟩:=r
      obtain⟨t',rfl⟩:=r'
      exact call_range_2 (range_it I1 q1 q2 q3 q4 q)
def tFor (wi:TI) (g:TG) (tb:TS):TS:=fun D σ H=>wi σ H fun J H1=>∃W:Nat→Nat→St→Hp→Prop,(∃m,W 0 m σ H1)∧∀i m σ H,W i m σ H →
  (J.stop i H∧D.nx σ H)∨(J.go i H∧∃N:St→Hp→Prop,(∀σ' H',N σ' H'→∃m',m'<m∧W (i+1) m' σ' H')∧∀x H',J.yld i H x H'→g x σ H' fun σ2 H2=>tb { D with nx:=N,ct:=N,bk:=D.nx } σ2 H2)
def pinsAt (fp:List Addr) (h:Heap):List (Addr×Obj):=fp.filterMap fun b=>(h.get? b).map fun o=>(b,o)
theorem mem_pinsAt (hb:b∈fp) (e:h.get? b=some o):(b,o)∈pinsAt fp h:=List.mem_filterMap.mpr ⟨b,hb,by rw[e];rfl⟩
theorem of_pinsAt (hp:p∈pinsAt fp h):p.1∈fp∧h.get? p.1=some p.2:=by
  obtain⟨b,hb,e⟩:=List.mem_filterMap.mp hp
  cases q:h.get? b with
  | none=>rw[q] at e;cases e
  | some o =>
    rw[q] at e
    have e':(b,o)=p:=Option.some.inj e
    subst e'
    exact⟨hb,q⟩
theorem Inv.pinned (I:Inv X pins σ H s) (hf:∀b∈fp,FpOk X pins H b) (ho:∀b∈fp,∃o,s.heap.get? b=some o∧∀v,o.data≠.cell v):Inv X (pins++pinsAt fp s.heap) σ H s :=
  I.pins_of fun p hp=>(List.mem_append.mp hp).elim (fun z=>I.pin p (List.mem_append_right _ z)) fun z=>by
    obtain⟨hb,e⟩:=of_pinsAt z
    obtain⟨f0,f1,f2,_⟩:=hf p.1 hb
    obtain⟨o,e',d⟩:=ho p.1 hb
    rw[e] at e';cases e'
    exact⟨e,f0,f1,f2,d⟩
theorem Inv.unpinned (I:Inv X (pins++pl) σ H s):Inv X pins σ H s:=I.pins_of fun p hp=>I.pin p (List.mem_append_right _ (List.mem_append_left _ hp))
theorem ps_for (hp:PassesOwn (model X.prog X.w) X.A X.env X.xe) (hc:X.calm=true) (hi:PI X tg iter wi) (hg:PG X tg g) (hb:PSs X body tb)
    (hs:∀x,foldedSetIterable iter X.env x=pure x:=by intro _;rfl):PS X (.For tg iter body [] pos) (tFor wi g tb):=by
  intro pins s σ H D I h
  refine wpAny_For (thn (hi pins s σ H _ I h) fun v s1 h1=>thn h1 fun itv s2 h2=>?_) hs
  obtain⟨it,fp,tn,J,H2,e,I2,T,st2,f2,W,⟨m0,w0⟩,turn⟩:=h2
  subst e
  have stat:∀{H':Hp},(∀b∈fp,H' b=none)→∀b∈fp,FpOk X pins H' b:=fun hn b hb=>⟨hn b hb,(f2 b hb).2⟩
  refine codeAny_forLoop_any (fun n s'=>∃i σ' H',Inv X pins σ' H' s'∧tn i s'.heap∧(∀b∈fp,H' b=none)∧W i n σ' H') ?_ m0 ⟨0,σ,H2,I2,st2,fun b hb=>(f2 b hb).1,w0⟩
  rintro n s3 ⟨i,σ3,H3,I3,st3,fr3,w3⟩
  rcases turn i n σ3 H3 w3 with ⟨stop,qn⟩ | ⟨go,N,hN,step⟩
  · refine wpAny_passesOwn hp (thn (T.done X rfl rfl rfl hc i pins s3 σ3 H3 X.xe I3 (stat fr3) st3 stop) fun r s4 ⟨hr,I4⟩=>?_)
    subst hr
    exact wpAny_execs_nil ⟨σ3,H3,I4,qn⟩
  · refine wpAny_passesOwn hp (thn (T.item X rfl rfl rfl hc i pins s3 σ3 H3 X.xe I3 (stat fr3) st3 go) fun r s4 ⟨u,hr,h4⟩=>?_)
    subst hr
    refine wpAny_passesOwn hp (thn h4 fun _ s5 ⟨x,H5,I5,r5,y5,st5,fr5⟩=>?_)
    have I5':=I5.pinned (stat fr5) (T.obj _ _ st5)
    refine wpAny_passesOwn hp (thn (hg _ s5 σ3 H5 x u _ I5' r5 (step x H5 y5)) fun _ s6 ⟨σ6,H6,I6,q6⟩=>?_)
    refine wpAny_passesOwn hp (thn (hb _ s6 σ6 H6 _ I6 q6) fun f s7 q7=>?_)
    have again:∀{σ7:St}{H7:Hp},Inv X (pins++pinsAt fp s5.heap) σ7 H7 s7→N σ7 H7→∃m,m<n∧∃i σ' H',Inv X pins σ' H' s7∧tn i s7.heap∧(∀b∈fp,H' b=none)∧W i m σ' H':=fun {σ7 H7} I7 n7=>by
      obtain⟨m',hm,w7⟩:=hN σ7 H7 n7
      refine⟨m',hm,i+1,σ7,H7,I7.unpinned,T.keep _ _ _ st5 fun b hb o e=>(I7.pin (b,o) (List.mem_append_right _ (List.mem_append_right _ (mem_pinsAt hb e)))).1,fun b hb=>?_,w7⟩
      obtain⟨o,e,d⟩:=T.obj _ _ st5 b hb
      exact(I7.pin (b,o) (List.mem_append_right _ (List.mem_append_right _ (mem_pinsAt hb e)))).2.1
    cases f with
    | next=>obtain⟨σ7,H7,I7,n7⟩:=q7;exact again I7 n7
    | cont=>obtain⟨σ7,H7,I7,n7⟩:=q7;exact again I7 n7
    | brk=>obtain⟨σ7,H7,I7,q7⟩:=q7;exact⟨σ7,H7,I7.unpinned,q7⟩
    | ret v=>obtain⟨x7,σ7,H7,I7,r7,q7⟩:=q7;exact⟨x7,σ7,H7,I7.unpinned,r7,q7⟩
end
theorem for_range {lo:Int}{n:Nat}{g:TG}{tb:TS}{D:Ends}{σ:St}{H:Hp} (Pv:Nat→St→Hp→Prop) (h0:Pv 0 σ H)
    (hs:∀i σ H,i<n→Pv i σ H→g (.int (lo+i)) σ H fun σ2 H2=>tb { D with nx:=Pv (i+1),ct:=Pv (i+1),bk:=D.nx } σ2 H2) (hd:∀σ H,Pv n σ H→D.nx σ H) :
    ∃W:Nat→Nat→St→Hp→Prop,(∃m,W 0 m σ H)∧∀i m σ H,W i m σ H →
      ((Itr lo n).stop i H∧D.nx σ H)∨((Itr lo n).go i H∧∃N:St→Hp→Prop,(∀σ' H',N σ' H'→∃m',m'<m∧W (i+1) m' σ' H')∧∀x H',(Itr lo n).yld i H x H'→g x σ H' fun σ2 H2=>tb { D with nx:=N,ct:=N,bk:=D.nx } σ2 H2):=by
  refine⟨fun i m σ H=>m=n-i∧i≤n∧Pv i σ H,⟨n,by simp,Nat.zero_le _,h0⟩,?_⟩
  rintro i m σ H ⟨rfl,hi,p⟩
  by_cases hlt:i<n
  · refine .inr ⟨hlt,Pv (i+1),fun σ' H' p'=>⟨n-(i+1),by omega,rfl,hlt,p'⟩,fun x H' y=>?_⟩
    obtain⟨e,y⟩:=y
    subst e y
    exact hs i σ _ hlt p
  · have e:i=n:=by omega
    subst e
    exact .inl ⟨Nat.le_refl _,hd σ H p⟩
end L2
namespace L2
open PySem PySem.Spec PyProof.Rows
abbrev R2:=V→V→Hp→VK→Prop
def OpR (X:Cx) (f:Value→Value→Sem Value) (r:R2):Prop :=
  ∀(pins:List (Addr×Obj)) (s:Shared) (σ:St) (H:Hp) (x y:V) (v u:Value) (Q:VK),Inv X pins σ H s→RelV x v→RelV y u→r x y H Q →
    wpAny (model X.prog X.w) X.A (f v u) (EP X pins σ Q) X.xe s
def UnR (X:Cx) (f:Value→Sem Value) (r:V→Hp→VK→Prop):Prop :=
  ∀(pins:List (Addr×Obj)) (s:Shared) (σ:St) (H:Hp) (x:V) (v:Value) (Q:VK),Inv X pins σ H s→RelV x v→r x H Q →
    wpAny (model X.prog X.w) X.A (f v) (EP X pins σ Q) X.xe s
def CallR (X:Cx) (f:Value) (r:List V→Hp→VK→Prop):Prop :=
  ∀(pins:List (Addr×Obj)) (s:Shared) (σ:St) (H:Hp) (xs:List V) (us:List Value) (Q:VK),Inv X pins σ H s→Vals xs us→r xs H Q →
    wpAny (model X.prog X.w) X.A (call f us) (EP X pins σ Q) X.xe s
def TruR (X:Cx) (r:V→Hp→(Bool→Hp→Prop)→Prop):Prop :=
  ∀(pins:List (Addr×Obj)) (s:Shared) (σ:St) (H:Hp) (x:V) (v:Value) (Q:Bool→Hp→Prop),Inv X pins σ H s→RelV x v→r x H Q →
    wpAny (model X.prog X.w) X.A (truthy v) (TP X pins σ Q) X.xe s
def tOp (r:R2) (ta tb:TE):TE:=fun σ H Q=>ta σ H fun x H1=>tb σ H1 fun y H2=>r x y H2 Q
def tUn (r:V→Hp→VK→Prop) (ta:TE):TE:=fun σ H Q=>ta σ H fun x H1=>r x H1 Q
def rI (C:Int→Int→Prop) (g:Int→Int→V):R2:=fun x y H Q=>∃i j,x = .int i∧y = .int j∧C i j∧Q (g i j) H
def rI0 (g:Int→Int→V):R2:=fun x y H Q=>∃i j,x = .int i∧y = .int j∧Q (g i j) H
def rU (g:Int→V):V→Hp→VK→Prop:=fun x H Q=>∃i,x = .int i∧Q (g i) H
section
variable {X:Cx}{a b c:Expr}{ta tb tc:TE}{pos:Pos}
theorem binT (ha:PE X a ta) (hb:PE X b tb){pins:List (Addr×Obj)}{s:Shared}{σ:St}{H:Hp}{R:V→V→Hp→Prop} (I:Inv X pins σ H s)
    (h:ta σ H fun x H1=>tb σ H1 fun y H2=>R x y H2){Q:Value→Shared→Prop}{f:Value→Value→Sem Value}
    (hf:∀v u s2 x y H2,Inv X pins σ H2 s2→RelV x v→RelV y u→R x y H2→wpAny (model X.prog X.w) X.A (f v u) Q X.xe s2) :
    wpAny (model X.prog X.w) X.A (eval a X.env) (fun v s₁=>wpAny (model X.prog X.w) X.A (eval b X.env) (fun u s₂=>wpAny (model X.prog X.w) X.A (f v u) Q X.xe s₂) X.xe s₁) X.xe s:=by
  refine thn (ha pins s σ H _ I h) fun v s1 ⟨x,H1,I1,r1,q1⟩=>?_
  refine thn (hb pins s1 σ H1 _ I1 q1) fun u s2 ⟨y,H2,I2,r2,q2⟩=>?_
  exact hf v u s2 x y H2 I2 r1 r2 q2
theorem pe_op (ho:OpR X (binaryOp op) r) (ha:PE X a ta) (hb:PE X b tb):PE X (.BinOp a op b pos) (tOp r ta tb):=by
  intro pins s σ H Q I h
  exact wpAny_BinOp (binT ha hb I h fun v u s2 x y H2 I2 rx ry q=>ho pins s2 σ H2 x y v u Q I2 rx ry q)
theorem pe_un (ho:UnR X (unaryOp op) r) (ha:PE X a ta):PE X (.UnaryOp op a pos) (tUn r ta):=by
  intro pins s σ H Q I h
  exact UnaryOp_ (thn (ha pins s σ H _ I h) fun v s1 ⟨x,H1,I1,r1,q1⟩=>ho pins s1 σ H1 x v Q I1 r1 q1)
theorem opI {f:Value→Value→Sem Value}{C:Int→Int→Prop}{g:Int→Int→Int}
    (rule:∀(i j:Int) (t u:Tok) (s:Shared) (Q:Value→Shared→Prop) (E:Value→Shared→Prop),C i j→Q (.int (g i j) s.toks) { s with toks:=s.toks+1 }→wpAny (model X.prog X.w) X.A (f (.int i t) (.int j u)) Q E s) :
    OpR X f (rI C fun i j=>.int (g i j)):=by
  intro pins s σ H x y v u Q I rx ry h
  obtain⟨i,j,rfl,rfl,hc,q⟩:=h
  obtain⟨t,rfl⟩:=rx
  obtain⟨t',rfl⟩:=ry
  exact rule i j t t' s _ _ hc ⟨.int (g i j),H,I.tok _,⟨_,rfl⟩,q⟩
theorem opI0 {f:Value→Value→Sem Value}{g:Int→Int→Int}
    (rule:∀(i j:Int) (t u:Tok) (s:Shared) (Q:Value→Shared→Prop) (E:Value→Shared→Prop),Q (.int (g i j) s.toks) { s with toks:=s.toks+1 }→wpAny (model X.prog X.w) X.A (f (.int i t) (.int j u)) Q E s) :
    OpR X f (rI0 fun i j=>.int (g i j)):=by
  intro pins s σ H x y v u Q I rx ry h
  obtain⟨i,j,rfl,rfl,q⟩:=h
  obtain⟨t,rfl⟩:=rx
  obtain⟨t',rfl⟩:=ry
  exact rule i j t t' s _ _ ⟨.int (g i j),H,I.tok _,⟨_,rfl⟩,q⟩
theorem opB0 {f:Value→Value→Sem Value}{g:Int→Int→Bool}
    (rule:∀(i j:Int) (t u:Tok) (s:Shared) (Q:Value→Shared→Prop) (E:Value→Shared→Prop),Q (.bool (g i j)) s→wpAny (model X.prog X.w) X.A (f (.int i t) (.int j u)) Q E s) :
    OpR X f (rI0 fun i j=>.bl (g i j)):=by
  intro pins s σ H x y v u Q I rx ry h
  obtain⟨i,j,rfl,rfl,q⟩:=h
  obtain⟨t,rfl⟩:=rx
  obtain⟨t',rfl⟩:=ry
  exact rule i j t t' s _ _ ⟨.bl (g i j),H,I,rfl,q⟩
def CDiv (i j:Int):Prop:=0<j∧j<1073741824
def CDivN (i j:Int):Prop:=j≠0∧j.natAbs<1073741824
def CPow (i j:Int):Prop:=0≤j∧j≤1000000∧i.natAbs<2^64
def CMul (i j:Int):Prop:=(-(2^64)<i∧i<2^64)∨(-(2^64)<j∧j<2^64)
theorem CMul.ok (h:CMul i j):IntMulOk i j:=by
  rcases h with ⟨h1,h2⟩ | ⟨h1,h2⟩
  · exact .of_left (intBits_le_64 h1 h2)
  · exact .of_right (intBits_le_64 h1 h2)
theorem two_pow_nn (k:Nat):(0:Int)≤2^k:=by
  rw[two_pow_cast]
  exact Int.natCast_nonneg _
theorem op_add:OpR X (binaryOp .Add) (rI0 fun i j=>.int (i+j)):=opI0 fun _ _ _ _ _ _ _ q=>add_int q
theorem op_sub:OpR X (binaryOp .Sub) (rI0 fun i j=>.int (i-j)):=opI0 fun _ _ _ _ _ _ _ q=>sub_int q
theorem op_mul:OpR X (binaryOp .Mult) (rI CMul fun i j=>.int (i*j)):=opI fun _ _ _ _ _ _ _ hc q=>mul_int q hc.ok
theorem op_fdiv:OpR X (binaryOp .FloorDiv) (rI CDiv fun i j=>.int (i/j)):=opI fun i j _ _ _ _ _ hc q=>by
  have h1:(0:Int)<j:=hc.1
  have h2:j<1073741824:=hc.2
  exact floordiv_int (by omega) (by rw[Int.fdiv_eq_ediv_of_nonneg i (by omega)];exact q) (.inl (PyProof.noPylong_small (by omega)))
theorem op_mod:OpR X (binaryOp .Mod) (rI (fun _ j=>0<j) fun i j=>.int (i%j)):=opI fun i j _ _ _ _ _ hc q=>by
  have h1:(0:Int)<j:=hc
  exact mod_int' (by omega) (by rw[Int.fmod_eq_emod_of_nonneg i (by omega)];exact q)
theorem op_pow:OpR X (binaryOp .Pow) (rI CPow fun i j=>.int (i^j.toNat)):=opI fun _ _ _ _ _ _ _ hc q=>pow_int_small hc.1 hc.2.1 hc.2.2 q
theorem op_shl:OpR X (binaryOp .LShift) (rI CPow fun i j=>.int (i*2^j.toNat)):=opI fun _ _ _ _ _ _ _ hc q=>lshift_int_small hc.1 hc.2.1 hc.2.2 q
theorem op_shr:OpR X (binaryOp .RShift) (rI (fun _ j=>0≤j) fun i j=>.int (i/2^j.toNat)):=opI fun i j _ _ _ _ _ hc q =>
  rshift_int hc (by rw[Int.fdiv_eq_ediv_of_nonneg i (two_pow_nn _)];exact q)
theorem op_and:OpR X (binaryOp .BitAnd) (rI0 fun i j=>.int (Builtin.bitAnd i j)):=opI0 fun _ _ _ _ _ _ _ q=>and_int q
theorem op_or:OpR X (binaryOp .BitOr) (rI0 fun i j=>.int (Builtin.bitOr i j)):=opI0 fun _ _ _ _ _ _ _ q=>or_int q
theorem unI {f:Value→Sem Value}{g:Int→Int}
    (rule:∀(i:Int) (t:Tok) (s:Shared) (Q:Value→Shared→Prop) (E:Value→Shared→Prop),Q (.int (g i) s.toks) { s with toks:=s.toks+1 }→wpAny (model X.prog X.w) X.A (f (.int i t)) Q E s) :
    UnR X f (rU fun i=>.int (g i)):=by
  intro pins s σ H x v Q I rx h
  obtain⟨i,rfl,q⟩:=h
  obtain⟨t,rfl⟩:=rx
  exact rule i t s _ _ ⟨.int (g i),H,I.tok _,⟨_,rfl⟩,q⟩
theorem un_neg:UnR X (unaryOp .USub) (rU fun i=>.int (-i)):=unI fun _ _ _ _ _ q=>neg_int q
end
def scal:V→V→Bool
  | .non,.non=>true | .non,.int _=>true | .int _,.non=>true | .non,.bl _=>true | .bl _,.non=>true | .non,.str _=>true | .str _,.non=>true
  | .int _,.int _=>true | .bl _,.bl _=>true | .str _,.str _=>true | .byt _,.byt _=>true
  | .int _,.str _=>true | .str _,.int _=>true | .bl _,.str _=>true | .str _,.bl _=>true
  | _,_=>false
def rEq:R2:=fun x y H Q=>scal x y=true∧Q (.bl (decide (x=y))) H
def rNe:R2:=fun x y H Q=>scal x y=true∧Q (.bl (!decide (x=y))) H
theorem dec_int:decide (V.int i=V.int j)=(i == j):=by
  rw[Bool.eq_iff_iff]
  simp
theorem dec_bl:decide (V.bl i=V.bl j)=(i == j):=by
  rw[Bool.eq_iff_iff]
  simp
theorem dec_str:decide (V.str i=V.str j)=(i == j):=by
  rw[Bool.eq_iff_iff]
  simp
theorem dec_byt:decide (V.byt i=V.byt j)=(i.toList == j.toList):=by
  rw[Bool.eq_iff_iff]
  cases i
  cases j
  simp
section
variable {X:Cx}{a b c:Expr}{ta tb tc:TE}{pos:Pos}
theorem fin_bl (I:Inv X pins σ H s) (q:Q (.bl k) H) (e:k=k'):EP X pins σ Q (.bool k') s:=by
  subst e
  exact⟨.bl k,H,I,rfl,q⟩
theorem op_eq:OpR X (compareOp .Eq) rEq:=by
  intro pins s σ H x y v u Q I rx ry h
  obtain⟨hs,q⟩:=h
  cases x with
  | non =>
    cases rx
    cases y with
    | non=>cases ry;exact PySem.EqNone.eq_none_none (fin_bl I q (by simp))
    | bl j=>cases ry;exact PySem.EqNone.eq_none_bool (fin_bl I q (by simp))
    | int j=>obtain⟨t',rfl⟩:=ry;exact PySem.EqNone.eq_none_int (fin_bl I q (by simp))
    | str j=>obtain⟨t',rfl⟩:=ry;exact PySem.EqNone.eq_none_str (fin_bl I q (by simp))
    | _=>exact absurd (show false=true from hs) Bool.false_ne_true
  | bl i =>
    cases rx
    cases y with
    | non=>cases ry;exact PySem.EqNone.eq_bool_none (fin_bl I q (by simp))
    | bl j=>cases ry;exact eq_bool (fin_bl I q dec_bl)
    | str j=>obtain⟨t',rfl⟩:=ry;exact PySem.EqMixed.eq_bool_str (fin_bl I q (by simp))
    | _=>exact absurd (show false=true from hs) Bool.false_ne_true
  | int i =>
    obtain⟨t,rfl⟩:=rx
    cases y with
    | non=>cases ry;exact PySem.EqNone.eq_int_none (fin_bl I q (by simp))
    | int j=>obtain⟨t',rfl⟩:=ry;exact eq_int (fin_bl I q dec_int)
    | str j=>obtain⟨t',rfl⟩:=ry;exact PySem.EqMixed.eq_int_str (fin_bl I q (by simp))
    | _=>exact absurd (show false=true from hs) Bool.false_ne_true
  | str i =>
    obtain⟨t,rfl⟩:=rx
    cases y with
    | non=>cases ry;exact PySem.EqNone.eq_str_none (fin_bl I q (by simp))
    | bl j=>cases ry;exact PySem.EqMixed.eq_str_bool (fin_bl I q (by simp))
    | int j=>obtain⟨t',rfl⟩:=ry;exact PySem.EqMixed.eq_str_int (fin_bl I q (by simp))
    | str j=>obtain⟨t',rfl⟩:=ry;exact eq_str (fin_bl I q dec_str)
    | _=>exact absurd (show false=true from hs) Bool.false_ne_true
  | byt i =>
    obtain⟨t,rfl⟩:=rx
    cases y with
    | byt j=>obtain⟨t',rfl⟩:=ry;exact PySem.W.eq_bytes (fin_bl I q dec_byt)
    | _=>exact absurd (show false=true from hs) Bool.false_ne_true
  | _=>cases y <;> exact absurd (show false=true from hs) Bool.false_ne_true
theorem op_ne:OpR X (compareOp .NotEq) rNe:=by
  intro pins s σ H x y v u Q I rx ry h
  obtain⟨hs,q⟩:=h
  cases x with
  | non =>
    cases rx
    cases y with
    | non=>cases ry;exact PySem.EqNone.ne_none_none (fin_bl I q (by simp))
    | bl j=>cases ry;exact PySem.EqNone.ne_none_bool (fin_bl I q (by simp))
    | int j=>obtain⟨t',rfl⟩:=ry;exact PySem.EqNone.ne_none_int (fin_bl I q (by simp))
    | str j=>obtain⟨t',rfl⟩:=ry;exact PySem.EqNone.ne_none_str (fin_bl I q (by simp))
    | _=>exact absurd (show false=true from hs) Bool.false_ne_true
  | bl i =>
    cases rx
    cases y with
    | non=>cases ry;exact PySem.EqNone.ne_bool_none (fin_bl I q (by simp))
    | bl j=>cases ry;exact ne_bool (fin_bl I q (congrArg not dec_bl))
    | str j=>obtain⟨t',rfl⟩:=ry;exact PySem.EqMixed.ne_bool_str (fin_bl I q (by simp))
    | _=>exact absurd (show false=true from hs) Bool.false_ne_true
  | int i =>
    obtain⟨t,rfl⟩:=rx
    cases y with
    | non=>cases ry;exact PySem.EqNone.ne_int_none (fin_bl I q (by simp))
    | int j=>obtain⟨t',rfl⟩:=ry;exact ne_int (fin_bl I q (congrArg not dec_int))
    | str j=>obtain⟨t',rfl⟩:=ry;exact PySem.EqMixed.ne_int_str (fin_bl I q (by simp))
    | _=>exact absurd (show false=true from hs) Bool.false_ne_true
  | str i =>
    obtain⟨t,rfl⟩:=rx
    cases y with
    | non=>cases ry;exact PySem.EqNone.ne_str_none (fin_bl I q (by simp))
    | bl j=>cases ry;exact PySem.EqMixed.ne_str_bool (fin_bl I q (by simp))
    | int j=>obtain⟨t',rfl⟩:=ry;exact PySem.EqMixed.ne_str_int (fin_bl I q (by simp))
    | str j=>obtain⟨t',rfl⟩:=ry;exact ne_str (fin_bl I q (congrArg not dec_str))
    | _=>exact absurd (show false=true from hs) Bool.false_ne_true
  | byt i =>
    obtain⟨t,rfl⟩:=rx
    cases y with
    | byt j=>obtain⟨t',rfl⟩:=ry;exact PySem.W.ne_bytes (fin_bl I q (congrArg not dec_byt))
    | _=>exact absurd (show false=true from hs) Bool.false_ne_true
  | _=>cases y <;> exact absurd (show false=true from hs) Bool.false_ne_true
theorem op_lt:OpR X (compareOp .Lt) (rI0 fun i j=>.bl (decide (i<j))):=opB0 fun _ _ _ _ _ _ _ q=>lt_int q
theorem op_le:OpR X (compareOp .LtE) (rI0 fun i j=>.bl (decide (i≤j))):=opB0 fun _ _ _ _ _ _ _ q=>le_int q
theorem op_gt:OpR X (compareOp .Gt) (rI0 fun i j=>.bl (decide (j<i))):=opB0 fun _ _ _ _ _ _ _ q=>gt_int q
theorem op_ge:OpR X (compareOp .GtE) (rI0 fun i j=>.bl (decide (j≤i))):=opB0 fun _ _ _ _ _ _ _ q=>ge_int q
theorem op_in_str:OpR X (compareOp .In) (fun x y H Q=>∃i j,x = .str i∧y = .str j∧Q (.bl (!(Builtin.Str.occurrences j i 0 j.length 1).isEmpty)) H):=by
  intro pins s σ H x y v u Q I rx ry h
  obtain⟨i,j,rfl,rfl,q⟩:=h
  obtain⟨t,rfl⟩:=rx
  obtain⟨t',rfl⟩:=ry
  exact in_str (fin_bl I q rfl)
def isObj:HO→Bool
  | .lst _=>true
  | .ins _ _ _=>true
  | _=>false
theorem nomark (b:Expr){op:CmpOp} (h:op≠.In:=by decide) (h2:op≠.NotIn:=by decide):behindInMarks op b=false:=by
  have e1:(op == CmpOp.In)=false:=by cases op <;> first | rfl | exact absurd rfl h
  have e2:(op == CmpOp.NotIn)=false:=by cases op <;> first | rfl | exact absurd rfl h2
  cases b <;> simp[behindInMarks,e1,e2]
theorem pe_cmpR (ho:OpR X (compareOp op) r) (ha:PE X a ta) (hb:PE X b tb) (hm:behindInMarks op b=false):PE X (.Compare a [op] [b] pos) (tOp r ta tb):=by
  intro pins s σ H Q I h
  exact wpAny_Compare1 (binT ha hb I h fun v u s2 x y H2 I2 rx ry q=>ho pins s2 σ H2 x y v u Q I2 rx ry q) hm
def tTest (t:TE):TT:=fun σ H Q=>t σ H fun x H'=>∃k,x = .bl k∧Q k H'
theorem pt_cmpR (ho:OpR X (compareOp op) r) (ha:PE X a ta) (hb:PE X b tb) (hm:behindInMarks op b=false):PT X (.Compare a [op] [b] pos) (tTest (tOp r ta tb)):=by
  intro pins s σ H Q I h
  refine wpAny_isTrue_Compare1 (thn (ha pins s σ H _ I h) fun v s1 ⟨x,H1,I1,r1,q1⟩=>thn (hb pins s1 σ H1 _ I1 q1) fun u s2 ⟨y,H2,I2,r2,q2⟩ =>
    thn (ho pins s2 σ H2 x y v u _ I2 r1 r2 q2) fun c s3 ⟨z,H3,I3,r3,k,e,q3⟩=>?_) hm
  subst e
  cases r3
  exact wpAny_truthy_bool ⟨H3,I3,q3⟩
def tChain (r r':R2) (ta tb tc:TE):TE:=fun σ H Q=>ta σ H fun x H1=>tb σ H1 fun y H2=>r x y H2 fun z H3=>∃k,z = .bl k ∧
  (if k=true then tc σ H3 fun w' H4=>r' y w' H4 Q else Q (.bl false) H3)
theorem pe_chain (ho:OpR X (compareOp op) r) (ho':OpR X (compareOp op') r') (ha:PE X a ta) (hb:PE X b tb) (hc:PE X c tc)
    (hm:lastMarks [op,op'] [b,c]=false:=by with_unfolding_all rfl):PE X (.Compare a [op,op'] [b,c] pos) (tChain r r' ta tb tc):=by
  intro pins s σ H Q I h
  refine Compare_chain (thn (ha pins s σ H _ I h) fun v s1 ⟨x,H1,I1,r1,q1⟩=>chain_link (thn (hb pins s1 σ H1 _ I1 q1) fun u s2 ⟨y,H2,I2,r2,q2⟩ =>
    thn (ho pins s2 σ H2 x y v u _ I2 r1 r2 q2) fun d s3 ⟨z,H3,I3,r3,k,e,q3⟩=>?_)) hm
  subst e
  cases r3
  refine wpAny_truthy_bool ?_
  cases k with
  | false=>exact ite_ff ⟨.bl false,H3,I3,rfl,q3⟩
  | true=>exact ite_tt (chain_last (thn (hc pins s3 σ H3 _ I3 q3) fun w' s4 ⟨z',H4,I4,r4,q4⟩=>ho' pins s4 σ H4 y z' u w' Q I4 r2 r4 q4))
theorem pt_chain (ho:OpR X (compareOp op) r) (ho':OpR X (compareOp op') r') (ha:PE X a ta) (hb:PE X b tb) (hc:PE X c tc)
    (hm:lastMarks [op,op'] [b,c]=false:=by with_unfolding_all rfl):PT X (.Compare a [op,op'] [b,c] pos) (tTest (tChain r r' ta tb tc)):=by
  intro pins s σ H Q I h
  refine isTrue_chain (thn (ha pins s σ H _ I h) fun v s1 ⟨x,H1,I1,r1,q1⟩=>test_link (thn (hb pins s1 σ H1 _ I1 q1) fun u s2 ⟨y,H2,I2,r2,q2⟩ =>
    thn (ho pins s2 σ H2 x y v u _ I2 r1 r2 q2) fun d s3 ⟨z,H3,I3,r3,k,e,q3⟩=>?_)) hm
  subst e
  cases r3
  refine wpAny_truthy_bool ?_
  cases k with
  | false =>
    obtain⟨k',e',q'⟩:=q3
    cases e'
    exact ite_ff ⟨H3,I3,q'⟩
  | true =>
    refine ite_tt (test_last (thn (hc pins s3 σ H3 _ I3 q3) fun w' s4 ⟨z',H4,I4,r4,q4⟩=>thn (ho' pins s4 σ H4 y z' u w' _ I4 r2 r4 q4) fun d' s5 ⟨z2,H5,I5,r5,k2,e2,q5⟩=>?_))
    subst e2
    cases r5
    exact wpAny_truthy_bool ⟨H5,I5,q5⟩
def TruV (K:PySem.W.Frag) (x:V) (H:Hp) (k:Bool):Prop :=
  match x with
  | .non=>k=false
  | .bl b=>k=b
  | .int i=>k=(i != 0)
  | .str y=>y.length≤sizeLine∧k=((y.length:Int) != 0)
  | .byt y=>y.size≤sizeLine∧k=((y.size:Int) != 0)
  | .ref p=>(∃xs,SqL K H p xs∧k = !xs.isEmpty)∨(∃xs,SqT K H p xs∧k = !xs.isEmpty)∨∃kvs,H p=some (.dK kvs)∧k = !kvs.isEmpty
  | _=>False
theorem line63:(sizeLine:Nat)<2^63:=by rw[sizeLine_eq];decide
theorem op_add_str:OpR X (binaryOp .Add) (fun x y H Q=>∃i j,x = .str i∧y = .str j∧i.length+j.length≤sizeLine∧Q (.str (i++j)) H):=by
  intro pins s σ H x y v u Q I rx ry h
  obtain⟨i,j,rfl,rfl,hz,q⟩:=h
  obtain⟨t,rfl⟩:=rx
  obtain⟨t',rfl⟩:=ry
  exact add_str (fun t' tk=>⟨.str (i++j),H,I.tok _,⟨_,rfl⟩,q⟩) hz
def PlainIxT (b:Expr):Prop:=∀o i,subscripted b false o i=operate [o,i] (getItem o i)
theorem vals1 (r:Vals [x] us):∃u,us=[u]∧RelV x u:=by
  cases r with
  | cons r1 r2=>cases r2;exact⟨_,rfl,r1⟩
theorem vals2 (r:Vals [x,y] us):∃u w',us=[u,w']∧RelV x u∧RelV y w':=by
  cases r with
  | cons r1 r2 =>
    cases r2 with
    | cons r3 r4=>cases r4;exact⟨_,_,rfl,r1,r3⟩
theorem call_abs:CallR X (.builtin "abs") (fun xs H Q=>∃i,xs=[.int i]∧Q (.int (if i<0 then -i else i)) H):=by
  intro pins s σ H xs us Q I r h
  obtain⟨i,rfl,q⟩:=h
  obtain⟨u,rfl,t,rfl⟩:=vals1 r
  exact call_abs_int fun u tk=>⟨.int (if i<0 then -i else i),H,I.tok _,⟨_,rfl⟩,q⟩
theorem call_str_int:CallR X (.type "str") (fun xs H Q=>∃i,xs=[.int i]∧i.natAbs.log2<1920∧Q (.str (toString i)) H):=by
  intro pins s σ H xs us Q I r h
  obtain⟨i,rfl,hz,q⟩:=h
  obtain⟨u,rfl,t,rfl⟩:=vals1 r
  exact PySem.P.str_of_int hz ⟨.str _,H,I.tok _,⟨_,rfl⟩,q⟩
def LenV (K:PySem.W.Frag) (x:V) (H:Hp) (n:Nat):Prop :=
  match x with
  | .str y=>y.length≤sizeLine∧n=y.length
  | .byt y=>y.size≤sizeLine∧n=y.size
  | .ref p=>(∃xs,SqL K H p xs∧n=xs.length)∨∃xs,SqT K H p xs∧n=xs.length
  | _=>False
end
end L2
namespace L2
open PySem PySem.Spec PyProof.Rows
structure ObjM (h:Heap) (x dx C:Addr) (mA:Str→Option Value):Prop where
  obj:h.get? x=some (PySem.W.instObj C dx)
  ns:h.Ns1 dx mA
  ne:dx≠x
theorem lookIn_ns {h:Heap}{dx:Addr}{mA:Str→Option Value} (n:h.Ns1 dx mA):∃od,h.get? dx=some od∧∀name,PySem.W.lookIn name od=some (mA name):=by
  obtain⟨o,es,ep,ho,hd,hk,_,hm⟩:=n
  refine⟨o,ho,fun name=>?_⟩
  have e:=hm name
  unfold nsFind findBy at e
  rw[← Array.find?_toList] at e
  unfold PySem.W.lookIn
  rw[hd]
  dsimp only
  split
  · rename_i y q
    rw[q] at e
    exact congrArg some e
  · rename_i q
    rw[q] at e
    have a:es.toList.any (·.refKey)=false:=by
      rw[List.any_eq_false]
      intro y hy
      obtain⟨z,t,hkey⟩:=hk y (Array.mem_toList_iff.mp hy)
      simp[DictEntry.refKey,hkey]
    have a':¬es.toList.any (·.refKey)=true:=by rw[a];exact Bool.false_ne_true
    rw[if_neg a']
    exact congrArg some e
theorem ObjM.look (I:ObjM h x dx C mA):∃od,PySem.W.InstAt h x (PySem.W.instObj C dx) C (some od)∧∀name,PySem.W.lookIn name od=some (mA name) :=
  let ⟨od,ho,hl⟩:=lookIn_ns I.ns
  ⟨od,⟨I.obj,rfl,rfl,ho⟩,hl⟩
section
variable {prog:Program}{w:World}{A:Around}{E:Value→Shared→Prop}{s:Shared}{K:PySem.W.Frag}{x dx C f:Addr}{mA:Str→Option Value}{name:Str}{v:Value}
theorem get_map (X:K.In s.heap) (I:ObjM s.heap x dx C mA) (hg:PySem.W.plainGet K C name=true) (hh:PySem.W.hasDictIn K C=true)
    (ha:PySem.W.findIn K (.ref C) name=some none) (hv:mA name=some v) (hv':PySem.W.handedIn v=true) (h:Q v { s with toks:=s.toks+1 }) :
    wpAny (model prog w) A (getAttr (.ref x) name expr) Q E s:=by
  obtain⟨od,J,hl⟩:=I.look
  exact PySem.W.get_value X J (PySem.W.plainGet_of hg).1 (PySem.W.findObj_own hh ha rfl (by rw[hl,hv])) hv' h
theorem get_meth (X:K.In s.heap) (I:ObjM s.heap x dx C mA) (hg:PySem.W.plainGet K C name=true)
    (hf:PySem.W.findIn K (.ref C) name=some (some (.ref f))) (ht:PySem.W.isFn K (.ref f)=true) (hv:mA name=none) (h:Q (.ref f,[.ref x]) s) :
    wpAny (model prog w) A (getMethod (.ref x) name pl) Q E s:=by
  obtain⟨od,J,hl⟩:=I.look
  exact PySem.W.method_fn X J (PySem.W.plainGet_of hg).1 (PySem.W.plainGet_of hg).2 hf (beq_iff_eq.mp ht) (by show(PySem.W.lookIn name od).map (·.isSome)=some false;rw[hl,hv];rfl) h
theorem set_map (X:K.In s.heap) (I:ObjM s.heap x dx C mA)
    (hs:PySem.W.findIn K (.ref C) "__setattr__"=some (some (.builtin "object.__setattr__"))) (hp:PySem.W.plainOver K C=true) (ht:PySem.W.takerIn K C name=some none) (hh:PySem.W.hasDictIn K C=true)
    (hw:PySem.Within mA ns) (hsz:ns.length≤sizeLine)
    (h:∀h',ObjM h' x dx C (fun y=>if y=name then some v else mA y)→Heap.SameBut dx s.heap h'→Q () { s with heap:=h',toks:=s.toks+2 }) :
    wpAny (model prog w) A (setAttr (.ref x) name v) Q E s:=by
  obtain⟨od,J,hl⟩:=I.look
  refine PySem.W.set_plain X J hs (PySem.W.osa_open (s:={ s with toks:=s.toks+1 }) (r:=none) X J hp ht fun b=>?_)
  obtain⟨cd,hc,hd'⟩:=PySem.W.any_some hh
  have hx:s.heap.get? x=some ⟨.ref C,some dx,.plain,#[]⟩:=I.obj
  refine wpAny_bind (wpAny_pure (wpAny_bind (wpAny_bind (wpAny_loadPart hx (wpAny_bind (PySem.W.Looks.here (s:={ s with toks:=s.toks+1 }) (PySem.W.looks_clsIn X hc) ?_))))))
  rw[hd']
  refine wpAny_pure (a:=some dx) (wpAny_bind (wpAny_pure (wpAny_bind ?_)))
  refine wpAny_nsSet1 (s:={ s with toks:=s.toks+1 }) I.ns fun h' hn2 hs2=>?_
  obtain⟨oD,esD,epD,hoD,hdD,hcD⟩:=hn2.count (PySem.Within.cons name v hw)
  refine wpAny_bind (wpAny_lookBehind hoD (by rw[hdD];exact pastItsLine_dict (Nat.le_trans hcD (by rw[List.length_cons];omega))) ?_)
  exact wpAny_pure (h _ ⟨(hs2.2 _ (Ne.symm I.ne)).trans I.obj,hn2,I.ne⟩ hs2)
theorem make_map (X:K.In s.heap) (hm:PySem.W.makesIn K C=true)
    (hi:PySem.W.findIn K (.ref C) "__init__"=some (some (.ref f))) (hf:PySem.W.typeIn K (.ref f)=some (.type "function"))
    (h:codeAny (model prog w) (A.under (.builtin "type.__call__" ⟨.ref C::vs,kw⟩)) (.call (.ref f) ⟨.ref (s.heap.objs.size+1)::vs,kw⟩) (PySem.W.InitBack (s.heap.objs.size+1) R)
      { s with heap:=(s.heap.push PySem.W.emptyDict).push (PySem.W.instObj C s.heap.objs.size) }) :
    codeAny (model prog w) A (.call (.ref C) ⟨vs,kw⟩) R s:=by
  obtain⟨hh,g,d,t,os⟩:=s
  exact PySem.W.make_core (PySem.W.makes_of X hm) (PySem.W.looks_findIn X hi) (fun self=>PySem.W.bind_fn X self hf) (.inl rfl) h
end
def putF (f:Str) (v:V):List (Str×V)→List (Str×V)
  | []=>[(f,v)]
  | (g,x)::r=>if g=f then (g,v)::r else (g,x)::putF f v r
theorem lookup_putF (f g:Str) (v:V):∀fs:List (Str×V),(putF f v fs).lookup g=if g=f then some v else fs.lookup g
  | []=>by
    show List.lookup g [(f,v)]=_
    by_cases h:g=f
    · have hb:(g == f)=true:=beq_iff_eq.mpr h
      simp only[List.lookup,hb,if_pos h]
    · have hb:(g == f)=false:=beq_eq_false_iff_ne.mpr h
      simp only[List.lookup,hb,if_neg h]
  | (k,x)::r=>by
    have ih:=lookup_putF f g v r
    rw[show putF f v ((k,x)::r)=(if k=f then (k,v)::r else (k,x)::putF f v r) from rfl]
    by_cases hk:k=f
    · rw[if_pos hk]
      by_cases h:g=k
      · have hb:(g == k)=true:=beq_iff_eq.mpr h
        simp only[List.lookup,hb,if_pos (h.trans hk)]
      · have hb:(g == k)=false:=beq_eq_false_iff_ne.mpr h
        simp only[List.lookup,hb,if_neg (fun e:g=f=>h (e.trans hk.symm))]
    · rw[if_neg hk]
      by_cases h:g=k
      · have hb:(g == k)=true:=beq_iff_eq.mpr h
        simp only[List.lookup,hb,if_neg (fun e:g=f=>hk (h.symm.trans e))]
      · have hb:(g == k)=false:=beq_eq_false_iff_ne.mpr h
        simp only[List.lookup,hb]
        exact ih
theorem keys_putF (f:Str) (v:V):∀fs:List (Str×V),f∈(putF f v fs).map (·.1)∧∀g,g∈fs.map (·.1)→g∈(putF f v fs).map (·.1)
  | []=>⟨by simp[putF],fun g h=>by simp at h⟩
  | (k,x)::r=>by
    obtain⟨i1,i2⟩:=keys_putF f v r
    rw[show putF f v ((k,x)::r)=(if k=f then (k,v)::r else (k,x)::putF f v r) from rfl]
    by_cases hk:k=f
    · rw[if_pos hk]
      subst hk
      exact⟨by simp,fun g h=>by simpa using h⟩
    · rw[if_neg hk]
      refine⟨?_,fun g h=>?_⟩
      · rw[List.map_cons]
        exact List.mem_cons_of_mem _ i1
      · rw[List.map_cons] at h⊢
        rcases List.mem_cons.mp h with e | e
        · exact List.mem_cons.mpr (.inl e)
        · exact List.mem_cons_of_mem _ (i2 g e)
theorem length_putF (f:Str) (v:V):∀fs:List (Str×V),(putF f v fs).length≤fs.length+1
  | []=>by simp[putF]
  | (k,x)::r=>by
    have ih:=length_putF f v r
    rw[show putF f v ((k,x)::r)=(if k=f then (k,v)::r else (k,x)::putF f v r) from rfl]
    by_cases hk:k=f
    · rw[if_pos hk,List.length_cons,List.length_cons];omega
    · rw[if_neg hk,List.length_cons,List.length_cons];omega
theorem RelO.some_of (r:RelO (some v) o):∃u,o=some u∧RelV v u:=by
  cases o with
  | none=>exact(show False from r).elim
  | some u=>exact⟨u,rfl,r⟩
theorem RelO.none_of (r:RelO none o):o=none:=by
  cases o with
  | none=>rfl
  | some u=>exact(show False from r).elim
theorem handed_of (r:RelV v u):PySem.W.handedIn u=true:=by
  cases v with
  | non=>cases (show u=Value.none from r);rfl
  | bl b=>cases (show u=Value.bool b from r);rfl
  | int i=>obtain⟨t,e⟩:=(show ∃t,u=Value.int i t from r);cases e;rfl
  | str x=>obtain⟨t,e⟩:=(show ∃t,u=Value.str x t from r);cases e;rfl
  | byt b=>obtain⟨t,e⟩:=(show ∃t,u=Value.bytes b t from r);cases e;rfl
  | flt b=>obtain⟨t,e⟩:=(show ∃t,u=Value.float b t from r);cases e;rfl
  | ref a=>cases (show u=Value.ref a from r);rfl
  | ty n=>cases (show u=Value.type n from r);rfl
section
variable {P:Program}{w:World}{H H':Hp}{h h':Heap}{a C dx:Addr}{fs fs':List (Str×V)}
theorem ins_get (hok:HOk P w H h) (e:H a=some (.ins C dx fs)):∃mA,ObjM h a dx C mA∧(∀f,RelO (fs.lookup f) (mA f))∧PySem.Within mA (fs.map (·.1))∧fs.length≤1000∧H dx=some (.own a):=by
  obtain⟨d,z,ne,ob,mA,n,r,q⟩:=(show ObjOk P w H h a (.ins C dx fs) from hok a _ e)
  exact⟨mA,⟨ob,n,ne⟩,r,q,z,d⟩
end
structure Cls (K:PySem.W.Frag) (C:Addr):Prop where
  pg:PySem.W.plainGet K C Str.empty=true
  hd:PySem.W.hasDictIn K C=true
  po:PySem.W.plainOver K C=true
  sa:PySem.W.findIn K (.ref C) "__setattr__"=some (some (.builtin "object.__setattr__"))
theorem Cls.get {K:PySem.W.Frag}{C:Addr} (c:Cls K C) (f:Str):PySem.W.plainGet K C f=true:=c.pg
def NoAttr (K:PySem.W.Frag) (C:Addr) (f:Str):Prop:=PySem.W.findIn K (.ref C) f=some none
theorem NoAttr.taker {K:PySem.W.Frag}{C:Addr}{f:Str} (n:NoAttr K C f):PySem.W.takerIn K C f=some none:=by
  unfold PySem.W.takerIn
  rw[show PySem.W.findIn K (.ref C) f=some none from n]
  rfl
structure Con (K:PySem.W.Frag) (C:Addr) (f:Str) (v:V) (u:Value):Prop where
  at_:PySem.W.findIn K (.ref C) f=some (some u)
  rel:RelV v u
  get:PySem.W.specialIn K u "__get__"=some none
  cp:PySem.W.copiedNames.contains f=false
structure Meth (K:PySem.W.Frag) (C:Addr) (m:Str) (f:Addr):Prop where
  at_:PySem.W.findIn K (.ref C) m=some (some (.ref f))
  fn:PySem.W.isFn K (.ref f)=true
  kp:PySem.W.keepIn K (.ref f)=true
section
variable {X:Cx}{pins:List (Addr×Obj)}{σ:St}{H:Hp}{s:Shared}{a C dx:Addr}{fs:List (Str×V)}{f:Str}{v:V}{A:Around}{E:Value→Shared→Prop}
theorem getattr_ok (I:Inv X pins σ H s) (e:H a=some (.ins C dx fs)) (c:Cls X.K C) (n:NoAttr X.K C f) (l:fs.lookup f=some v)
    (h:∀u s',Inv X pins σ H s'→RelV v u→Q u s'):wpAny (model X.prog X.w) A (getAttr (.ref a) f b) Q E s:=by
  obtain⟨mA,O,r,_,_,_⟩:=ins_get I.hok e
  obtain⟨u,hu,ru⟩:=RelO.some_of (v:=v) (o:=mA f) (by rw[← l];exact r f)
  exact get_map I.kIn O (c.get f) c.hd n hu (handed_of ru) (h u _ (I.tok _) ru)
theorem getmeth_ok (I:Inv X pins σ H s) (e:H a=some (.ins C dx fs)) (c:Cls X.K C) (k:Meth X.K C m g) (l:fs.lookup m=none)
    (h:Q (.ref g,[.ref a]) s):wpAny (model X.prog X.w) A (getMethod (.ref a) m pl) Q E s:=by
  obtain⟨mA,O,r,_,_,_⟩:=ins_get I.hok e
  have hn:mA m=none:=RelO.none_of (by rw[← l];exact r m)
  exact get_meth I.kIn O (c.get m) k.at_ k.fn hn h
theorem setattr_ok (I:Inv X pins σ H s) (e:H a=some (.ins C dx fs)) (c:Cls X.K C) (n:NoAttr X.K C f) (hl:fs.length<1000) (ry:RelV y u)
    (h:∀s',Inv X pins σ (upd H a (.ins C dx (putF f y fs))) s'→Q () s'):wpAny (model X.prog X.w) A (setAttr (.ref a) f u) Q E s:=by
  obtain⟨mA,O,r,wi,_,ho⟩:=ins_get I.hok e
  have hz:(fs.map (·.1)).length≤sizeLine:=by rw[List.length_map,sizeLine_eq];omega
  refine set_map I.kIn O c.sa c.po n.taker c.hd wi hz fun h' O' sb=>h _ ?_
  have hd:∃o,h'.get? dx=some o:=let ⟨o,_,_,e',_⟩:=O'.ns;⟨o,e'⟩
  refine I.write (x:=a) (e:=dx) (by rw[e];exact True.intro) (.inr ho) (fun b q hb z=>(sb.2 b hb).trans z) hd ?_
  refine⟨by rw[upd_ne O.ne];exact ho,?_,O.ne,O'.obj,_,O'.ns,fun g=>?_,fun g hg=>?_⟩
  · have:=length_putF f y fs;omega
  · show RelO ((putF f y fs).lookup g) (if g=f then some u else mA g)
    rw[lookup_putF]
    by_cases q:g=f
    · rw[if_pos q,if_pos q];exact ry
    · rw[if_neg q,if_neg q];exact r g
  · by_cases q:g=f
    · rw[q];exact(keys_putF f y fs).1
    · refine(keys_putF f y fs).2 g (wi g fun z=>hg ?_)
      show(if g=f then some u else mA g)=none
      rw[if_neg q];exact z
theorem Inv.made (I:Inv X pins σ H s):Inv X pins σ (upd (upd H s.heap.objs.size (.own (s.heap.objs.size+1))) (s.heap.objs.size+1) (.ins C s.heap.objs.size []))
    { s with heap:=(s.heap.push PySem.W.emptyDict).push (PySem.W.instObj C s.heap.objs.size) }:=by
  have e1:(s.heap.push PySem.W.emptyDict).get? s.heap.objs.size=some PySem.W.emptyDict:=Heap.get?_push_size s.heap rfl
  have e2:((s.heap.push PySem.W.emptyDict).push (PySem.W.instObj C s.heap.objs.size)).get? (s.heap.objs.size+1)=some (PySem.W.instObj C s.heap.objs.size):=by
    have:=Heap.get?_push_size (s.heap.push PySem.W.emptyDict) (o:=PySem.W.instObj C s.heap.objs.size) rfl
    rwa [Heap.size_push] at this
  have e3:(s.heap.push PySem.W.emptyDict).Ns s.heap.objs.size (fun _=>none):=⟨PySem.W.emptyDict,#[],_,e1,rfl,(fun e he=>absurd he (by simp)),fun _=>rfl⟩
  have I1:=I.laid (a:=s.heap.objs.size) (o:=.own (s.heap.objs.size+1)) (h':=s.heap.push PySem.W.emptyDict) (t':=s.toks) (fun b u q=>Heap.get?_push_of_some _ q) (Nat.le_refl _) ⟨_,e1⟩
  refine I1.laid (a:=s.heap.objs.size+1) (o:=.ins C s.heap.objs.size []) (t':=s.toks) (fun b u q=>Heap.get?_push_of_some _ q) (Nat.le_of_eq (Heap.size_push _ _)) ?_
  have ne:s.heap.objs.size≠s.heap.objs.size+1:=Nat.ne_of_lt (Nat.lt_succ_self _)
  refine⟨by rw[upd_ne ne,upd_same],Nat.zero_le _,ne,e2,fun _=>none,(Heap.Ns1.of_empty e3).at fun o q=>Heap.get?_push_of_some _ q,fun _=>True.intro,fun y hy=>absurd rfl hy⟩
theorem attr_of (hb:attributeBase e f env (eval e env)=eval e env)
    (h:wpAny (model prog w) A (eval e env) (fun o s₁=>wpAny (model prog w) A (getAttr o f true) Q E s₁) E s):wpAny (model prog w) A (eval (.Attribute e f pos) env) Q E s :=
  Attribute_any_ h (by rw[arm_eval_Attribute,hb])
end
def tFld (K:PySem.W.Frag) (ta:TE) (f:Str):TE:=fun σ H Q=>ta σ H fun x H1=>∃a C dx fs v,x = .ref a∧H1 a=some (.ins C dx fs)∧Cls K C∧NoAttr K C f∧fs.lookup f=some v∧Q v H1
def tCon (K:PySem.W.Frag) (ta:TE) (f:Str):TE:=fun σ H Q=>ta σ H fun x H1=>∃a C dx fs v u,x = .ref a∧H1 a=some (.ins C dx fs)∧Cls K C∧Con K C f v u∧fs.lookup f=none∧Q v H1
def sFld (K:PySem.W.Frag) (ta tv:TE) (f:Str):TS:=fun D σ H=>tv σ H fun y H1=>ta σ H1 fun x H2=>∃a C dx fs,x = .ref a∧H2 a=some (.ins C dx fs)∧Cls K C∧NoAttr K C f∧fs.length<1000 ∧
  D.nx σ (upd H2 a (.ins C dx (putF f y fs)))
def InOp (X:Cx) (op:Operator) (rd:V→V→Hp→VK→Prop):Prop :=
  ∀(pins:List (Addr×Obj)) (s:Shared) (σ:St) (H:Hp) (x y:V) (u v:Value) (Q:VK),Inv X pins σ H s→RelV x u→RelV y v→rd x y H Q→wpAny (model X.prog X.w) X.A (inplaceOp op u v) (EP X pins σ Q) X.xe s
def sFldAug (K:PySem.W.Frag) (ta tv:TE) (rd:V→V→Hp→VK→Prop) (f:Str):TS:=fun D σ H=>ta σ H fun x H1=>∃a C dx fs v,x = .ref a∧H1 a=some (.ins C dx fs)∧Cls K C∧NoAttr K C f∧fs.lookup f=some v ∧
  tv σ H1 fun y H2=>rd v y H2 fun z H3=>∃dx' fs',H3 a=some (.ins C dx' fs')∧fs'.length<1000∧D.nx σ (upd H3 a (.ins C dx' (putF f z fs')))
section
variable {X:Cx}{o e value:Expr}{f:Str}{pos pos' tpos:Pos}{ta tv:TE}
theorem pe_fld (he:PE X e ta) (hb:attributeBase e f X.env (eval e X.env)=eval e X.env):PE X (.Attribute e f pos) (tFld X.K ta f):=by
  intro pins s σ H Q I h
  refine attr_of hb (thn (he pins s σ H _ I h) fun u s1 ⟨x,H1,I1,rx,a,C,dx,fs,v,ex,ea,c,n,l,q⟩=>?_)
  subst ex
  obtain rfl:u=Value.ref a:=rx
  exact getattr_ok I1 ea c n l fun u' s2 I2 ru=>⟨v,H1,I2,ru,q⟩
theorem ps_fld (ha:PE X o ta) (hv:PE X value tv) (hs:swapsWith value (some (.Attribute o f pos')) pos.line X.env=pure false):PS X (.Assign [.Attribute o f pos'] value pos) (sFld X.K ta tv f):=by
  intro pins s σ H D I h
  refine plainObj_wpAny_Assign_Attribute (thn (hv pins s σ H _ I h) fun u s1 ⟨y,H1,I1,ry,q⟩=>thn (ha pins s1 σ H1 _ I1 q) fun ov s2 ⟨x,H2,I2,rx,a,C,dx,fs,ex,ea,c,n,l,q2⟩=>?_) hs
  subst ex
  obtain rfl:ov=Value.ref a:=rx
  exact setattr_ok I2 ea c n l ry fun s3 I3=>⟨σ,_,I3,q2⟩
def rAdd:V→V→Hp→VK→Prop:=fun x y H Q=>∃i j,x = .int i∧y = .int j∧Q (.int (i+j)) H
def rSub:V→V→Hp→VK→Prop:=fun x y H Q=>∃i j,x = .int i∧y = .int j∧Q (.int (i-j)) H
end
section
variable {X:Cx}{pins:List (Addr×Obj)}{σ:St}{H:Hp}{s:Shared}{A:Around}{E:Value→Shared→Prop}{Q:Value→Shared→Prop}{c:Value}{b:Bool}
inductive TyOf (K:PySem.W.Frag) (H:Hp):V→Value→Prop where
  | non:TyOf K H .non (.type "NoneType")
  | bl (x:Bool):TyOf K H (.bl x) (.type "bool")
  | int (i:Int):TyOf K H (.int i) (.type "int")
  | str (x:Str):TyOf K H (.str x) (.type "str")
  | flt (x:UInt64):TyOf K H (.flt x) (.type "float")
  | lst {a:Addr}{xs:List V} (e:H a=some (.lst xs)):TyOf K H (.ref a) (.type "list")
  | frz {a:Addr}{o:Obj}{xs:List V} (e:H a=some (.frz o (.lst xs))):TyOf K H (.ref a) (.type "list")
  | tup {a:Addr}{xs:List V} (e:H a=some (.tup xs)):TyOf K H (.ref a) (.type "tuple")
  | dK {a:Addr}{kvs:List (Key×V)} (e:H a=some (.dK kvs)):TyOf K H (.ref a) (.type "dict")
  | dT {a:Addr}{kvs:List (List Key×V)} (e:H a=some (.dT kvs)):TyOf K H (.ref a) (.type "dict")
  | ins {a C dx:Addr}{fs:List (Str×V)} (e:H a=some (.ins C dx fs)) (cl:Cls K C) (ha:PySem.W.findIn K (.ref C) "__class__"=some (some (.builtin "object.__class__")))
      (hn:PySem.W.specialIn K (.builtin "object.__class__") "__get__"=some (some (.builtin "getset_descriptor.__get__"))) (htk:PySem.W.takesIn K (.builtin "object.__class__")=some true)
      (hm:PySem.W.mroIn K C (.type "object")=some true):TyOf K H (.ref a) (.ref C)
end
end L2
namespace L2
open PySem PySem.Spec PyProof.Rows
structure Room (k:Nat) (A:Around):Prop where
  hd:A.handled=none
  dp:A.depth+3*k+5<recursionLimit
  un:A.units+16*k+200<cLine
theorem Room.mono (r:Room k A) (h:j≤k):Room j A:=⟨r.hd,by have:=r.dp;omega,by have:=r.un;omega⟩
theorem Room.deeper (r:Room (k+1) A) (env:Env):Room k (A.deeper env) :=
  ⟨r.hd,by have:=r.dp;show A.depth+1+3*k+5<_;omega,by have:=r.un;show A.units+3+16*k+200<_;omega⟩
theorem make_depth {A:Around}{C:Addr}{us:List Value}{kw:List (Str×Value)}:(A.under (.builtin "type.__call__" ⟨.ref C::us,kw⟩)).depth=A.depth+1:=by
  first | rfl | simp[Around.under,Code.weight,Code.isCreation,Code.isGuard,Code.isCaller,Code.frames,Code.isFrame,guardIds]
theorem make_units {A:Around}{C:Addr}{us:List Value}{kw:List (Str×Value)}:(A.under (.builtin "type.__call__" ⟨.ref C::us,kw⟩)).units=A.units+1:=by
  first | rfl | simp[Around.under,Code.cUnits,Code.frames,Code.isFrame]
theorem Room.make (r:Room (k+1) A) (C:Addr) (us:List Value) (kw:List (Str×Value)):Room k (A.under (.builtin "type.__call__" ⟨.ref C::us,kw⟩)) :=
  ⟨r.hd,by have:=r.dp;rw[make_depth];omega,by have:=r.un;rw[make_units];omega⟩
theorem Room.depth (r:Room k A):A.depth<recursionLimit:=by have:=r.dp;omega
theorem Room.units (r:Room k A):A.units+64<cLine:=by have:=r.un;omega
def tNil:TA:=fun _ H Q=>Q [] H
def tCons (ta:TE) (tr:TA):TA:=fun σ H Q=>ta σ H fun x H1=>tr σ H1 fun xs H2=>Q (x::xs) H2
section
variable {X:Cx}{e:Expr}{es:List Expr}{te:TE}{t:TA}{pos:Pos}
theorem pa_nil:PA X [] tNil:=fun _ _ _ _ H Q I h=>Calls.spliced_nil ⟨[],H,I,.nil,h⟩
theorem pa_cons (ha:PE X e te) (hr:PA X es t) (hs:starEach (e::es) X.env=(false,eval e X.env)::starEach es X.env:=by rfl):PA X (e::es) (tCons te t):=by
  intro pos pins s σ H Q I h
  rw[hs]
  show wpAny _ _ (spliced ((false,eval e X.env)::backTo pos (starEach es X.env))) _ _ s
  refine Calls.spliced_cons (thn (ha pins s σ H _ I h) fun u s1 ⟨x,H1,I1,r1,q1⟩=>?_)
  exact thn (hr pos pins s1 σ H1 _ I1 q1) fun us s2 ⟨xs,H2,I2,r2,q2⟩=>⟨x::xs,H2,I2,.cons r1 r2,q2⟩
def tTup (t:TA):TE:=fun σ H Q=>t σ H fun xs H1=>xs.length≤sizeLine∧∀p,H1 p=none→Q (.ref p) (upd H1 p (.tup xs))
def tLst (t:TA):TE:=fun σ H Q=>t σ H fun xs H1=>xs.length≤sizeLine∧∀p,H1 p=none→Q (.ref p) (upd H1 p (.lst xs))
theorem pe_tup {x1} (h:PA X es t):PE X (.Tuple es x1 pos) (tTup t):=by
  intro pins s σ H Q I hq
  refine wpAny_Tuple_spliced (thn (h pos pins s σ H _ I hq) fun us s1 ⟨xs,H1,I1,r,z,q⟩=>⟨by rw[← r.length];exact z,?_⟩)
  have hf:H1 s1.heap.objs.size=none:=I1.hok.fresh (Nat.le_refl _)
  refine⟨.ref s1.heap.objs.size,upd H1 s1.heap.objs.size (.tup xs),I1.laid (t':=s1.toks) (fun b u e=>Heap.get?_push_of_some _ e) (Nat.le_refl _) ?_,rfl,q _ hf⟩
  exact⟨z,us,r,⟨_,Heap.get?_push_size _ rfl,rfl,_,rfl⟩⟩
theorem pe_lst (h:PA X es t):PE X (.List es pos) (tLst t):=by
  intro pins s σ H Q I hq
  refine wpAny_List_spliced (thn (h pos pins s σ H _ I hq) fun us s1 ⟨xs,H1,I1,r,z,q⟩=>⟨by rw[← r.length];exact z,?_⟩)
  have hf:H1 s1.heap.objs.size=none:=I1.hok.fresh (Nat.le_refl _)
  refine⟨.ref s1.heap.objs.size,upd H1 s1.heap.objs.size (.lst xs),I1.laid (t':=s1.toks) (fun b u e=>Heap.get?_push_of_some _ e) (Nat.le_refl _) ?_,rfl,q _ hf⟩
  exact⟨z,us,0,r,Heap.get?_push_size _ rfl⟩
end
abbrev Sp:=List V→Hp→VK→XK→Prop
abbrev CXT:=List Env→Hp→Shared→XK→Value→Shared→Prop
structure Env0 (P:Program) (w:World) (K:PySem.W.Frag) (mg:Str→Option Value) (base:Heap) (A:Around) (outer:List Env) (s:Shared) (H:Hp):Prop where
  frames:A.frames=some outer
  mod:Mod K mg base
  bs:∀b o,base.get? b=some o→s.heap.get? b=some o∧H b=none
  bsz:base.objs.size≤s.heap.objs.size
  funs:s.heap.FunFrames base outer
  frf:∀b∈frs outer,H b=none
  hok:HOk P w H s.heap
  bare:AllBare s.gens
def CE (outer:List Env) (P:Program) (w:World) (H:Hp) (s:Shared) (Q:VK) (u:Value) (s':Shared):Prop :=
  ∃v H',s'.os=s.os∧AllBare s'.gens∧Un (frs outer) [] H H' s.heap s'.heap∧HOk P w H' s'.heap∧RelV v u∧Q v H'
def CR (CX:CXT) (outer:List Env) (P:Program) (w:World) (H:Hp) (s:Shared) (Q:VK) (E:XK) (r:Result) (s':Shared):Prop :=
  match r with
  | .ok (.ret u)=>CE outer P w H s Q u s'
  | .ok _=>False
  | .error e=>CX outer H s E e s'
structure FnOk (P:Program) (w:World) (K:PySem.W.Frag) (mg:Str→Option Value) (base:Heap) (CX:CXT) (k:Nat) (f:Addr) (fd:FuncData) (ps:List Str) (sp:Sp):Prop where
  len:∀vs H Q E,sp vs H Q E→vs.length=ps.length
  run:∀(A:Around) (outer:List Env) (s:Shared) (H:Hp) (args:Args) (us:List Value) (vs:List V) (Q:VK) (E:XK),Room k A→Env0 P w K mg base A outer s H→BindsTo s fd args (ps.zip us)→Vals vs us→sp vs H Q E →
    codeAny (model P w) A (.call (.ref f) args) (CR CX outer P w H s Q E) s
theorem FnOk.imp {P:Program}{w:World}{K:PySem.W.Frag}{mg:Str→Option Value}{base:Heap}{CX:CXT}{k:Nat}{f:Addr}{fd:FuncData}{ps:List Str}{sp sp':Sp} (F:FnOk P w K mg base CX k f fd ps sp)
    (h:∀vs H Q E,sp' vs H Q E→sp vs H Q E):FnOk P w K mg base CX k f fd ps sp' :=
  ⟨fun vs H Q E q=>F.len vs H Q E (h _ _ _ _ q),fun A outer s H args us vs Q E hr he hb hv hs=>F.run A outer s H args us vs Q E hr he hb hv (h _ _ _ _ hs)⟩
theorem Env0.make {P:Program}{w:World}{K:PySem.W.Frag}{mg:Str→Option Value}{base:Heap}{A:Around}{outer:List Env}{s:Shared}{H:Hp} (e:Env0 P w K mg base A outer s H) (C:Addr) (us:List Value) (kw:List (Str×Value)) :
    Env0 P w K mg base (A.under (.builtin "type.__call__" ⟨.ref C::us,kw⟩)) outer s H:=⟨by first | exact e.frames | (simpa [Around.under,Code.envs,Code.isFrame,pushEnvs] using e.frames),e.mod,e.bs,e.bsz,e.funs,e.frf,e.hok,e.bare⟩
section
variable {X:Cx}{pins:List (Addr×Obj)}{σ:St}{H:Hp}{s s':Shared}
theorem Inv.env0 (I:Inv X pins σ H s):Env0 X.prog X.w X.K X.mg X.base X.A X.stack s H :=
  ⟨I.ok.frames,I.ok.mod,I.bs,Nat.le_trans I.ok.bsz I.sz,I.stack,I.stkFree,I.hok,I.bare⟩
theorem Inv.after (I:Inv X pins σ H s) (h:CE X.stack X.prog X.w H s Q u s'):EP X pins σ Q u s':=by
  obtain⟨v,H',os,bare,un,hok,r,q⟩:=h
  obtain⟨hh,g,d,t,os'⟩:=s'
  obtain rfl:os'=s.os:=os
  exact⟨v,H',I.call (h':=hh) (g':=g) (d':=d) (t':=t) (ch:=[]) un hok bare (fun b z=>absurd z (by simp)),r,q⟩
end
def tCall (sp:Sp) (dvs:List V) (E:XK) (t:TA):TE:=fun σ H Q=>t σ H fun vs H1=>sp (vs++dvs) H1 Q E
def tMeth (C:Addr) (m:Str) (sp:Sp) (dvs:List V) (E:XK) (ta:TE) (t:TA):TE:=fun σ H Q=>ta σ H fun x H1=>∃a dx fs,x = .ref a∧H1 a=some (.ins C dx fs)∧fs.lookup m=none ∧
  t σ H1 fun vs H2=>sp (x::(vs++dvs)) H2 Q E
def tMake (C:Addr) (sp:Sp) (dvs:List V) (E:XK) (t:TA):TE:=fun σ H Q=>t σ H fun vs H1=>∀x dx,H1 x=none→H1 dx=none→dx≠x →
  sp (.ref x::(vs++dvs)) (upd (upd H1 dx (.own x)) x (.ins C dx [])) (fun v H2=>v = .non∧Q (.ref x) H2) E
def Binds (K:PySem.W.Frag) (fd:FuncData) (ps:List Str) (ds:List Value):Prop :=
  ∀(s:Shared) (us:List Value),K.In s.heap→(us++ds).length=ps.length→BindsTo s fd ⟨us,[]⟩ (ps.zip (us++ds))
theorem Binds.all {K:PySem.W.Frag}{fd:FuncData}{ps:List Str} (h:∀us:List Value,us.length=ps.length→bindArgs fd ⟨us,[]⟩=pure (ps.zip us)):Binds K fd ps []:=fun s us _ hl=>by
  rw[List.append_nil] at hl⊢
  exact .of_eq (h us hl)
def Passes (CX:CXT) (X:Cx) (E:XK):Prop:=∀(pins:List (Addr×Obj)) (σ:St) (H:Hp) (s:Shared) (e:Value) (s':Shared),Inv X pins σ H s→CX X.stack H s E e s'→X.xe e s'
section
variable {X:Cx}{CX:CXT}{k:Nat}{f C:Addr}{fd:FuncData}{ps:List Str}{sp:Sp}{dvs:List V}{ds:List Value}{E:XK}{x m:Str}{p pos apos:Pos}{e o:Expr}{es:List Expr}{ta:TE}{t:TA}
theorem run_fn (F:FnOk X.prog X.w X.K X.mg X.base CX k f fd ps sp) (hr:Room k X.A) (hb:Binds X.K fd ps ds) (hd:Vals dvs ds) (hx:Passes CX X E)
    (I:Inv X pins σ H s) (r:Vals vs us) (h:sp (vs++dvs) H Q E):wpAny (model X.prog X.w) X.A (call (.ref f) us) (EP X pins σ Q) X.xe s:=by
  have r2:Vals (vs++dvs) (us++ds):=r.append hd
  have hl:(us++ds).length=ps.length:=by rw[← r2.length];exact F.len _ _ _ _ h
  refine wpAny_call (codeAny_mono (F.run X.A X.stack s H ⟨us,[]⟩ (us++ds) (vs++dvs) Q E hr I.env0 (hb s us I.kIn hl) r2 h) fun r s' hq=>?_)
  cases r with
  | error e=>exact hx pins σ H s e s' I hq
  | ok fl =>
    cases fl with
    | ret u=>exact I.after hq
    | next=>exact False.elim hq
    | brk=>exact False.elim hq
    | cont=>exact False.elim hq
theorem pe_call (F:FnOk X.prog X.w X.K X.mg X.base CX k f fd ps sp) (hr:Room k X.A) (hg:Gl X x) (hm:X.mg x=some (.ref f)) (hk:PySem.W.keepIn X.K (.ref f)=true) (hb:Binds X.K fd ps ds) (hd:Vals dvs ds) (hx:Passes CX X E)
    (ha:PA X (e::es) t) (hdb:(x == ("__debug__":Str))=false:=by decide) (he:starEach (e::es) X.env=(false,eval e X.env)::starEach es X.env:=by rfl) (hpl:(backTo pos (starEach es X.env)).any (·.1)=false:=by rfl) :
    PE X (.Call (.Name x p) (e::es) [] pos) (tCall sp dvs E t):=by
  intro pins s σ H Q I h
  refine wpAny_Call_Name_kw (ld_glob I hg hm ?_ hdb)
  refine PySem.W.callWith_K (h₀:=X.base) I.ok.mod.kin hk (thn (ha pos pins s σ H _ I h) fun us s1 ⟨vs,H1,I1,r,q⟩=>⟨I1.kIn,?_⟩) he hpl
  exact run_fn F hr hb hd hx I1 r q
structure Mk (K:PySem.W.Frag) (C f:Addr):Prop where
  makes:PySem.W.makesIn K C=true
  init:PySem.W.findIn K (.ref C) "__init__"=some (some (.ref f))
  fn:PySem.W.isFn K (.ref f)=true
  kp:PySem.W.keepIn K (.ref C)=true
end
def PK (X:Cx) (kws:List Keyword) (t:TA):Prop :=
  ∀(pos:Pos) (pins:List (Addr×Obj)) (s:Shared) (σ:St) (H:Hp) (Q:List V→Hp→Prop),Inv X pins σ H s→t σ H Q→wpAny (model X.prog X.w) X.A (evalAll ((backToKw pos (keywordEach kws X.env)).map (·.2))) (AP X pins σ Q) X.xe s
section
variable {X:Cx}{CX:CXT}{k:Nat}{f C:Addr}{fd:FuncData}{ps ks:List Str}{sp:Sp}{E:XK}{x m:Str}{p pos apos kpos:Pos}{e o:Expr}{es:List Expr}{kws:List Keyword}{te ta:TE}{t tk:TA}{nm:Option Str}
theorem pk_nil:PK X [] tNil:=fun _ _ _ _ H Q I h=>wpAny_evalAll_nil ⟨[],H,I,.nil,h⟩
theorem pk_cons (ha:PE X e te) (hr:PK X kws t):PK X (⟨nm,e,kpos⟩::kws) (tCons te t):=by
  intro pos pins s σ H Q I h
  show wpAny _ _ (evalAll ((do let v ← eval e X.env;standAt pos;pure v)::(backToKw pos (keywordEach kws X.env)).map (·.2))) _ _ s
  refine wpAny_evalAll_cons (wpAny_bind (thn (ha pins s σ H _ I h) fun u s1 ⟨x,H1,I1,r1,q1⟩=>wpAny_bind (wpAny_standAt (wpAny_pure ?_))))
  exact thn (hr pos pins s1 σ H1 _ I1 q1) fun us s2 ⟨xs,H2,I2,r2,q2⟩=>⟨x::xs,H2,I2,.cons r1 r2,q2⟩
structure KBinds (K:PySem.W.Frag) (fd:FuncData) (ps ks:List Str) (g:List Value→List Value→List Value) (gV:List V→List V→List V):Prop where
  to:∀(s:Shared) (us ws:List Value),K.In s.heap→(g us ws).length=ps.length→BindsTo s fd ⟨us,ks.zip ws⟩ (ps.zip (g us ws))
  rel:∀{vs:List V}{us:List Value}{zs:List V}{ws:List Value},Vals vs us→Vals zs ws→Vals (gV vs zs) (g us ws)
def tCallK (sp:Sp) (gV:List V→List V→List V) (E:XK) (t tk:TA):TE:=fun σ H Q=>t σ H fun vs H1=>tk σ H1 fun zs H2=>sp (gV vs zs) H2 Q E
variable {g:List Value→List Value→List Value}{gV:List V→List V→List V}
end
structure FnScope (N P:List Str) (sc:Scope):Prop where
  kind:sc.kind = .function
  co:sc.isCoroutine=false
  gen:sc.isGenerator=false
  nd:N.Nodup
  pre:N.take P.length=P
  par:∀x∈P,sc.names.lookup x=some .local∨sc.names.lookup x=some .cell
  nofree:∀y∈sc.names,y.2≠.free
theorem bindL_out {kindOf:Str→Option NameKind}{x:Str}:∀{binds:List (Str×Value)}{m:Str→Option Value},(∀v,(x,v)∉binds)→bindL kindOf binds m x=m x
  | [],_,_=>rfl
  | (n,v)::r,m,h=>by
    unfold bindL
    rw[bindL_out fun w hw=>h w (List.mem_cons_of_mem _ hw)]
    split
    · have:x≠n:=by rintro rfl;exact h v List.mem_cons_self
      simp[this]
    · rfl
theorem bindC_out {kindOf:Str→Option NameKind}{x:Str}:∀{binds:List (Str×Value)}{m:Str→Option Value},(∀v,(x,v)∉binds)→bindC kindOf binds m x=m x
  | [],_,_=>rfl
  | (n,v)::r,m,h=>by
    unfold bindC
    rw[bindC_out fun w hw=>h w (List.mem_cons_of_mem _ hw)]
    split
    · rfl
    · have:x≠n:=by rintro rfl;exact h v List.mem_cons_self
      simp[this]
theorem bindL_get {kindOf:Str→Option NameKind}{x:Str}{v:Value}:∀{P:List Str}{vs:List Value}{i:Nat}{m:Str→Option Value},P.Nodup→P[i]?=some x→vs[i]?=some v→kindOf x=some .local →
    bindL kindOf (P.zip vs) m x=some v
  | [],_,_,_,_,h,_,_=>by simp at h
  | _::_,[],_,_,_,_,h,_=>by simp at h
  | p::P,w::vs,0,m,nd,h1,h2,hk=>by
    simp at h1 h2;subst h1;subst h2
    show bindL kindOf ((p,w)::P.zip vs) m p=_
    unfold bindL
    rw[bindL_out fun v hv=>(List.nodup_cons.mp nd).1 (List.of_mem_zip hv).1,if_pos hk]
    simp
  | p::P,w::vs,i+1,m,nd,h1,h2,hk=>by
    show bindL kindOf ((p,w)::P.zip vs) m x=_
    unfold bindL
    exact bindL_get (i:=i) (List.nodup_cons.mp nd).2 (by simpa using h1) (by simpa using h2) hk
theorem bindC_get {kindOf:Str→Option NameKind}{x:Str}{v:Value}:∀{P:List Str}{vs:List Value}{i:Nat}{m:Str→Option Value},P.Nodup→P[i]?=some x→vs[i]?=some v→kindOf x≠some .local →
    bindC kindOf (P.zip vs) m x=some v
  | [],_,_,_,_,h,_,_=>by simp at h
  | _::_,[],_,_,_,_,h,_=>by simp at h
  | p::P,w::vs,0,m,nd,h1,h2,hk=>by
    simp at h1 h2;subst h1;subst h2
    show bindC kindOf ((p,w)::P.zip vs) m p=_
    unfold bindC
    rw[bindC_out fun v hv=>(List.nodup_cons.mp nd).1 (List.of_mem_zip hv).1,if_neg hk]
    simp
  | p::P,w::vs,i+1,m,nd,h1,h2,hk=>by
    show bindC kindOf ((p,w)::P.zip vs) m x=_
    unfold bindC
    exact bindC_get (i:=i) (List.nodup_cons.mp nd).2 (by simpa using h1) (by simpa using h2) hk
def start (N:List Str) (vs:List V):St:=vs.map some++List.replicate (N.length-vs.length) none
def cxOf (CX:CXT) (P:Program) (w:World) (K:PySem.W.Frag) (mg:Str→Option Value) (base:Heap) (N:List Str) (qual:Str) (scope:Scope) (f:Addr) (cd:Value) (A:Around) (outer:List Env) (s:Shared) (H:Hp) (E:XK):Cx where
  prog:=P
  w:=w
  K:=K
  mg:=mg
  base:=base
  A:=A.deeper (envOfC qual scope s.heap.objs.size f cd)
  N:=N
  s₀:=s
  H₀:=H
  env:=envOfC qual scope s.heap.objs.size f cd
  outer:=outer
  stack:=envOfC qual scope s.heap.objs.size f cd::outer
  ex:=[]
  calm:=true
  fn:=fun _=>true
  pn:=[]
  xe:=fun e s'=>wpAny (model P w) (A.deeper (envOfC qual scope s.heap.objs.size f cd)) (leaving (envOfC qual scope s.heap.objs.size f cd) e) (fun _ s''=>CX outer H s E e s'') (fun e' s''=>CX outer H s E e' s'') s'
theorem cell_has {sc:Scope}{n:Nat}{x:Str} (h:sc.names.lookup x=some .cell):∃c,(cellsFrom n sc.names []).lookup x=some c:=by
  have q:=PySem.W.cellsFrom_some sc.names n [] (.inl h)
  exact Option.isSome_iff_exists.mp q
theorem inv_start {CX:CXT}{P:Program}{w:World}{K:PySem.W.Frag}{mg:Str→Option Value}{base:Heap}{N ps:List Str}{qual:Str}{scope:Scope}{f:Addr}{cd:Value}{A:Around}{outer:List Env}{s s1:Shared}{H:Hp}{E:XK}{us:List Value}{vs:List V}
    (S:FnScope N ps scope) (hd:A.handled=none) (e0:Env0 P w K mg base A outer s H) (hl:vs.length=ps.length) (r:Vals vs us)
    (x:InCallC s s.heap.objs.size (bindL (envOfC qual scope s.heap.objs.size f cd).kindOf (ps.zip us) fun _=>none) (cellsFrom (s.heap.objs.size+1) scope.names []) (bindC (envOfC qual scope s.heap.objs.size f cd).kindOf (ps.zip us) fun _=>none) s1) :
    Inv (cxOf CX P w K mg base N qual scope f cd A outer s H E) [] (start N vs) H s1:=by
  have hpl:ps.length≤N.length:=by have:=congrArg List.length S.pre;rw[List.length_take] at this;omega
  obtain⟨h1,tk,rfl,hk⟩:=x.done
  have noA:∀b:Addr,b∉(cxOf CX P w K mg base N qual scope f cd A outer s H E).ex:=fun b z=>absurd (show b∈([]:List Addr) from z) (by simp)
  refine⟨⟨e0.mod,S.kind,rfl,rfl,Nat.le_refl _,fun y z c h1 h2=>?_,fun y hy=>?_,fun y c _ h=>?_,fun _=>hd,Around.frames_deeper e0.frames,.inr ⟨rfl,rfl⟩,fun b z=>absurd z (noA b),e0.bs,e0.bsz,fun b _ _=>noA b,fun b z=>absurd z (noA b),e0.funs,e0.frf⟩,
    rfl,e0.bare,Un.kept hk,⟨_,x.toInCall.ns,fun i y v h1 h2 h3=>?_⟩,fun y c h=>⟨_,x.cell y c h⟩,e0.hok.fresh (Nat.le_refl _),fun y c h=>?_,fun p hp=>absurd (show p∈([]:List (Addr×Obj)) from hp) (by simp),e0.hok.kept hk,?_⟩
  · exact name_of_addr x.apart (PySem.mem_of_lookup h1) (PySem.mem_of_lookup h2)
  · have hy:scope.names.lookup y=some .cell∨scope.names.lookup y=some .free:=hy
    rcases hy with hy | hy
    · exact cell_has hy
    · exact absurd rfl (S.nofree _ (PySem.mem_of_lookup hy))
  · exact Nat.le_of_lt (x.above y c (PySem.mem_of_lookup h))
  · have hi:i<vs.length:=by
      unfold start at h2
      by_cases hi:i<vs.length
      · exact hi
      · rw[List.getElem?_append_right (by simpa using hi)] at h2
        rw[List.getElem?_replicate] at h2
        split at h2 <;> cases h2
    have ha:vs[i]?=some v:=by
      unfold start at h2
      rw[List.getElem?_append_left (by simpa using hi),List.getElem?_map] at h2
      cases e:vs[i]? with
      | none=>rw[e] at h2;cases h2
      | some a=>rw[e] at h2;cases h2;rfl
    obtain⟨u,hu,rv⟩:=r.get ha
    have hp:ps[i]?=some y:=by
      rw[← S.pre,List.getElem?_take_of_lt (by omega)];exact h1
    have ndP:ps.Nodup:=by rw[← S.pre];exact S.nd.sublist (List.take_sublist _ _)
    refine⟨u,rv,?_⟩
    rcases S.par y (List.mem_of_getElem? hp) with k | k
    · exact .inl ⟨k,bindL_get ndP hp hu k⟩
    · obtain⟨c,e⟩:=cell_has (n:=s.heap.objs.size+1) k
      refine .inr ⟨.inl k,c,e,?_⟩
      have q:=x.cell y c e
      rw[bindC_get ndP hp hu (by show scope.names.lookup y≠_;rw[k];decide)] at q
      exact q
  · exact e0.hok.fresh (Nat.le_of_lt (x.above y c (PySem.mem_of_lookup h)))
  · unfold start
    show _=N.length
    rw[List.length_append,List.length_map,List.length_replicate]
    omega
theorem fn_of {CX:CXT}{P:Program}{w:World}{K:PySem.W.Frag}{mg:Str→Option Value}{base:Heap}{k:Nat}{f:Addr}{name qual:Str}{params:Arguments}{body:List Stmt}{scope:Scope}{dV kV doc pm cdv ct oc:Value}{an od:Option Addr}
    {osl:Array (Option Value)}{N ps:List Str}{sp:Sp} (lk:K.lookup f=some ⟨oc,od,.func (PySem.W.fnOf name qual params body scope dV kV doc pm an cdv ct),osl⟩) (hcd:PySem.W.codeIn K cdv qual=true) (S:FnScope N ps scope)
    (len:∀vs H Q E,sp vs H Q E→vs.length=ps.length)
    (hbody:∀(A:Around) (outer:List Env) (s:Shared) (H:Hp) (vs:List V) (Q:VK) (E:XK),Room k (A.deeper (envOfC qual scope s.heap.objs.size f cdv))→sp vs H Q E →
      ∃t,PSs (cxOf CX P w K mg base N qual scope f cdv A outer s H E) body t∧t { nx:=fun _ H'=>Q .non H',rt:=Q } (start N vs) H) :
    FnOk P w K mg base CX (k+1) f (PySem.W.fnOf name qual params body scope dV kV doc pm an cdv ct) ps sp:=by
  refine⟨len,fun A outer s H args us vs Q E hr e0 hb r hsp=>?_⟩
  have hl:=len _ _ _ _ hsp
  have KX:K.In s.heap:=e0.mod.kin.keeps fun b o e=>(e0.bs b o e).1
  have lim:s.heap.NoLimit:=e0.mod.nolimit.keeps fun b o e=>(e0.bs b o e).1
  have hkind:∀y∈ps.zip us,scope.names.lookup y.1=some .local∨(scope.names.lookup y.1=some .cell∧((cellsFrom (s.heap.objs.size+1) scope.names []).lookup y.1).isSome=true):=fun⟨n,v⟩ hy=>by
    rcases S.par n (List.of_mem_zip hy).1 with q | q
    · exact .inl q
    · exact .inr ⟨q,PySem.W.cellsFrom_some _ _ _ (.inl q)⟩
  refine codeAny_call_function hr.depth (KX _ _ lk) rfl S.co S.gen rfl (PySem.W.codeRec_of KX hcd) (hb _ _ _ _ ?_)
  refine wpAny_newFunctionEnv_cells S.kind hkind fun env he s1 x=>?_
  subst he
  refine⟨lim.keeps x.toInCall.keep,codeAny_func ?_⟩
  obtain⟨t,ht,hq⟩:=hbody A outer s H vs Q E (hr.deeper _) hsp
  have I:Inv (cxOf CX P w K mg base N qual scope f cdv A outer s H E) [] (start N vs) H s1:=inv_start S hr.hd e0 hl r x
  refine wpAny_mono (ht [] s1 (start N vs) H _ I hq) (fun fl s' hs=>?_) fun e s' hs=>hs
  have fin:∀{σ':St}{H':Hp}{v:V}{u:Value},Inv (cxOf CX P w K mg base N qual scope f cdv A outer s H E) [] σ' H' s'→RelV v u→Q v H'→CE outer P w H s Q u s' :=
    fun {σ' H' v u} J rv q=>⟨v,H',J.os,J.bare,J.base,J.hok,rv,q⟩
  cases fl with
  | ret u =>
    obtain⟨v,σ',H',J,rv,q⟩:=hs
    exact fin J rv q
  | next =>
    obtain⟨σ',H',J,q⟩:=hs
    exact fin (v:=V.non) (u:=Value.none) J rfl q
  | brk =>
    obtain⟨_,_,_,q⟩:=hs
    exact False.elim q
  | cont =>
    obtain⟨_,_,_,q⟩:=hs
    exact False.elim q
end L2
namespace L2
open PySem PySem.Spec PyProof.Rows
section
variable {X:Cx}{x:Str}{p pos:Pos}{e:Expr}{es:List Expr}{t:TA}{id T:String}{r:List V→Hp→VK→Prop}
def tCB (r:List V→Hp→VK→Prop) (t:TA):TE:=fun σ H Q=>t σ H fun vs H1=>r vs H1 Q
theorem pe_callB (hc:CallR X (.builtin id) r) (hg:Gl X x) (hm:X.mg x=none) (hv:bootBuiltins x=some (.builtin id)) (ha:PA X (e::es) t) (hn:x≠"__name__":=by decide) (hdb:(x == ("__debug__":Str))=false:=by decide)
    (he:starEach (e::es) X.env=(false,eval e X.env)::starEach es X.env:=by rfl) (hpl:(backTo pos (starEach es X.env)).any (·.1)=false:=by rfl):PE X (.Call (.Name x p) (e::es) [] pos) (tCB r t):=by
  intro pins s σ H Q I h
  refine wpAny_Call_Name_kw (ld_blt I hg hm hv ?_ hn hdb)
  exact PyProof.Rows.callWith_builtin1 (thn (ha pos pins s σ H _ I h) fun us s1 ⟨vs,H1,I1,r1,q1⟩=>hc pins s1 σ H1 vs us Q I1 r1 q1) he hpl
theorem pe_callTy (hc:CallR X (.type T) r) (hg:Gl X x) (hm:X.mg x=none) (hv:bootBuiltins x=some (.type T)) (ha:PA X (e::es) t) (hn:x≠"__name__":=by decide) (hdb:(x == ("__debug__":Str))=false:=by decide)
    (he:starEach (e::es) X.env=(false,eval e X.env)::starEach es X.env:=by rfl) (hpl:(backTo pos (starEach es X.env)).any (·.1)=false:=by rfl):PE X (.Call (.Name x p) (e::es) [] pos) (tCB r t):=by
  intro pins s σ H Q I h
  refine wpAny_Call_Name_kw (ld_blt I hg hm hv ?_ hn hdb)
  exact PyProof.Rows.callWith_type1 (thn (ha pos pins s σ H _ I h) fun us s1 ⟨vs,H1,I1,r1,q1⟩=>hc pins s1 σ H1 vs us Q I1 r1 q1) he hpl
end
end L2
namespace HT
open PySem PyProof.Rows
def lexLt:List Int→List Int→Bool
  | [],[]=>false
  | [],_::_=>true
  | _::_,[]=>false
  | x::xs,y::ys=>if x=y then lexLt xs ys else decide (x<y)
section
open PySem.SeqAt
open PySem.AutoSeq1 (wpAny_loadPart')
open PySem.MeetsSeq PySem.MeetsSeq2 PySem.MeetsSeq3
end
section
variable {prog:Program}{w:World}{A:Around}{E:Value→Shared→Prop}{s:Shared}
def sIx (n d:Nat):Option Int→Nat
  | none=>d
  | some v=>if v<0 then (v+(n:Int)).toNat else min v.toNat n
theorem sIx_none (n d:Nat):sIx n d none=d:=rfl
theorem sIx_nat (n d k:Nat):sIx n d (some (k:Int))=min k n:=by
  show(if (k:Int)<0 then ((k:Int)+(n:Int)).toNat else min (k:Int).toNat n)=min k n
  rw[if_neg (by omega),Int.toNat_natCast]
theorem sIx_le (n d:Nat) (hd:d≤n) (o:Option Int):sIx n d o≤n:=by
  cases o with
  | none=>exact hd
  | some v =>
    show(if v<0 then (v+(n:Int)).toNat else min v.toNat n)≤n
    by_cases hv:v<0
    · rw[if_pos hv];omega
    · rw[if_neg hv];exact Nat.min_le_right _ _
theorem clip_eq (v:Int) (n d:Nat):(if v<0 then max (v+(n:Int)) 0 else min v (n:Int))=((sIx n d (some v):Nat):Int):=by
  show(if v<0 then max (v+(n:Int)) 0 else min v (n:Int))=(((if v<0 then (v+(n:Int)).toNat else min v.toNat n):Nat):Int)
  by_cases hv:v<0
  · simp only[if_pos hv];omega
  · simp only[if_neg hv];omega
theorem adjust_gen (lo hi:Option Int) (n:Nat):Builtin.Slice.sliceAdjust lo hi 1 (n:Int)=(((sIx n 0 lo:Nat):Int),((sIx n n hi:Nat):Int)):=by
  have h1:¬((1:Int)<0):=by omega
  unfold Builtin.Slice.sliceAdjust
  simp only[h1,if_false]
  refine Prod.ext ?_ ?_
  · cases lo with
    | none=>rfl
    | some v=>exact clip_eq v n 0
  · cases hi with
    | none=>rfl
    | some v=>exact clip_eq v n n
theorem places_gen (i j:Nat):Builtin.Slice.slicePlaces (i:Int) (j:Int) 1=j-i:=by
  unfold Builtin.Slice.slicePlaces
  have h1:(1:Int)>0:=by omega
  simp only[h1,if_true,Int.ediv_one]
  split <;> omega
theorem slicePart_ (p:IsPart v o) (h:Q o s):wpAny (model prog w) A (Builtin.Slice.slicePartIndex v) Q E s:=by
  cases p with
  | none=>exact slicePart_none h
  | int i t=>exact slicePart_int h
theorem sliceApplied_gen {sl:Addr}{vl vu:Value}{lo hi:Option Int}{n:Nat}{Q:Int×Int×Nat→Shared→Prop} (hs:s.heap.IsSliceOf sl vl vu .none) (pl:IsPart vl lo) (pu:IsPart vu hi)
    (h:Q (((sIx n 0 lo:Nat):Int),1,sIx n n hi-sIx n 0 lo) s):wpAny (model prog w) A (Builtin.Slice.sliceApplied (.ref sl) (pure (n:Int))) Q E s:=by
  obtain⟨os,hos,hcs,hds⟩:=id hs
  unfold Builtin.Slice.sliceApplied Builtin.Slice.sliceFields
  refine wpAny_bind (wpAny_bind (wpAny_field hos hds (x:=vl) rfl (wpAny_bind (wpAny_field hos hds (x:=vu) rfl (wpAny_bind (wpAny_field hos hds (x:=.none) rfl (wpAny_pure ?_)))))))
  refine wpAny_bind (slicePart_none ?_)
  show wpAny _ _ (if ((1:Int) == 0)=true then _ else _) _ _ s
  rw[if_neg (by decide)]
  refine wpAny_bind (slicePart_ pl (wpAny_bind (slicePart_ pu (wpAny_bind (wpAny_pure ?_)))))
  show wpAny _ _ (match Builtin.Slice.sliceAdjust lo hi 1 (n:Int) with | (lo,hi)=>pure (lo,(1:Int),Builtin.Slice.slicePlaces lo hi 1)) _ _ s
  rw[adjust_gen lo hi n]
  show wpAny _ _ (pure (((sIx n 0 lo:Nat):Int),(1:Int),Builtin.Slice.slicePlaces ((sIx n 0 lo:Nat):Int) ((sIx n n hi:Nat):Int) 1)) _ _ s
  rw[places_gen]
  exact wpAny_pure h
theorem pick_gen (xs:Array Value) (i k:Nat):((List.range k).filterMap fun(m:Nat)=>xs[((i:Int)+(m:Int)*1).toNat]?).toArray=((xs.toList.drop i).take k).toArray:=by
  have e:(fun(m:Nat)=>xs[((i:Int)+(m:Int)*1).toNat]?)=fun m=>xs[i+m]?:=by
    funext m
    have:((i:Int)+(m:Int)*1).toNat=i+m:=by omega
    rw[this]
  rw[e]
  have:=pick_run xs i k
  rw[List.filterMap_map] at this
  have e2:((fun x=>xs[x]?)∘fun x=>i+x)=fun m=>xs[i+m]?:=rfl
  rw[e2] at this
  rw[this]
theorem getItem_tuple_cut {t sl:Addr}{items:Array Value}{vl vu:Value}{lo hi:Option Int}{Q:Value→Shared→Prop} (ht:IsTup s.heap t items) (hs:s.heap.IsSliceOf sl vl vu .none) (pl:IsPart vl lo) (pu:IsPart vu hi)
    (hw:¬(sIx items.size 0 lo=0∧sIx items.size items.size hi=items.size))
    (h:Q (.ref s.heap.objs.size) { s with heap:=s.heap.push { cls:=.type "tuple",data:=.seq ((items.toList.drop (sIx items.size 0 lo)).take (sIx items.size items.size hi-sIx items.size 0 lo)).toArray } })
    (hsz:items.size≤sizeLine):wpAny (model prog w) A (getItem (.ref t) (.ref sl)) Q E s:=by
  have htake:sizeOk (.seq ((items.toList.drop (sIx items.size 0 lo)).take (sIx items.size items.size hi-sIx items.size 0 lo)).toArray):=by
    show((items.toList.drop (sIx items.size 0 lo)).take (sIx items.size items.size hi-sIx items.size 0 lo)).toArray.size≤sizeLine
    rw[List.size_toArray,List.length_take,List.length_drop,Array.length_toList]
    omega
  have hj:sIx items.size items.size hi≤items.size:=sIx_le _ _ (Nat.le_refl _) hi
  obtain⟨os,hos,hcs,hds⟩:=id hs
  have hTs:s.TypeIs (.ref sl) "slice":=⟨os,hos,hcs⟩
  unfold getItem
  try with_reducible refine wpAny_holding ?_
  first | refine wpAny_bind (wpAny_pure ?_) | skip
  refine wpAny_bind (wpAny_sequenceKey ht.typeIs (by decide) ?_)
  refine wpAny_bind (wpAny_callSpecial?_slot (name:=Str.ofString "__getitem__") ht.typeIs PyProof.Rows.slot_tuple_getitem
    (wpAny_call_entry PyProof.Rows.slot_tuple_getitem ht.typeIs entry_tuple_getitem ?_ (args_tuple_getitem _ _)))
  show wpAny _ _ (Builtin.Tuple.tupleItemsOf (.ref t) >>= _) _ _ s
  refine wpAny_bind (tupleItemsOf_ ht ?_)
  refine wpAny_bind (wpAny_typeOf hTs ?_)
  rw[if_pos (by decide)]
  refine wpAny_bind (sliceApplied_gen hs pl pu ?_)
  have hno:¬((((sIx items.size 0 lo:Nat):Int) == 0&&(1:Int) == 1&&(sIx items.size items.size hi-sIx items.size 0 lo) == items.size)=true):=by
    intro q
    rw[Bool.and_eq_true,Bool.and_eq_true] at q
    have q1:((sIx items.size 0 lo:Nat):Int)=0:=eq_of_beq q.1.1
    have q2:sIx items.size items.size hi-sIx items.size 0 lo=items.size:=eq_of_beq q.2
    exact hw ⟨by omega,by omega⟩
  show wpAny _ _ (if (((sIx items.size 0 lo:Nat):Int) == 0&&(1:Int) == 1&&(sIx items.size items.size hi-sIx items.size 0 lo) == items.size)=true then _ else _) _ _ s
  rw[if_neg hno,pick_gen]
  first
    | exact wpAny_bind (m:=Builtin.Tuple.tupleExact _) (wpAny_newObj_type (wpAny_pure ⟨_,rfl,wpAny_pure h⟩) htake)
    | exact wpAny_bind (m:=Builtin.Tuple.tupleExact _) (wpAny_newObj_type (wpAny_bind (wpAny_pure (wpAny_pure ⟨_,rfl,wpAny_pure h⟩))) htake)
    | exact wpAny_bind (wpAny_bind (m:=Builtin.Tuple.tupleExact _) (wpAny_newObj_type (wpAny_pure (wpAny_pure ⟨_,rfl,wpAny_pure h⟩)) htake))
    | exact wpAny_bind (wpAny_bind (m:=Builtin.Tuple.tupleExact _) (wpAny_newObj_type (wpAny_pure ⟨_,rfl,wpAny_pure h⟩) htake))
end
end HT
namespace L2
open PySem PySem.Spec PyProof.Rows
abbrev TO:=St→Hp→(Option Int→Hp→Prop)→Prop
def PO (X:Cx) (e:Option Expr) (t:TO):Prop :=
  ∀(pins:List (Addr×Obj)) (s:Shared) (σ:St) (H:Hp) (Q:Option Int→Hp→Prop),Inv X pins σ H s→t σ H Q →
    wpAny (model X.prog X.w) X.A (evalPart e X.env) (fun u s'=>∃o H',Inv X pins σ H' s'∧IsPart u o∧Q o H') X.xe s
def tNoPart:TO:=fun _ H Q=>Q none H
def tPart (t:TE):TO:=fun σ H Q=>t σ H fun x H1=>∃i,x = .int i∧Q (some i) H1
theorem intsAre_of:∀{us:List Value},Vals (ns.map V.int) us→IntsAre us ns:=by
  induction ns with
  | nil=>intro us r;rw[List.map_nil] at r;cases r;exact .nil
  | cons n ns ih =>
    intro us r
    rw[List.map_cons] at r
    cases r with
    | cons r1 r2 =>
      obtain⟨t,e⟩:=r1
      subst e
      exact .cons n t (ih r2)
section
variable {X:Cx}{e:Expr}{te:TE}{lo hi:Option Expr}{tl th:TO}{pos p2:Pos}
theorem po_none:PO X none tNoPart:=by
  intro pins s σ H Q I h
  rw[evalPart_none]
  exact wpAny_pure ⟨none,H,I,.none,h⟩
theorem po_some (h:PE X e te):PO X (some e) (tPart te):=by
  intro pins s σ H Q I hw
  rw[evalPart_some]
  refine thn (h pins s σ H _ I hw) fun u s1 ⟨x,H1,I1,r1,q1⟩=>?_
  obtain⟨i,rfl,q⟩:=q1
  obtain⟨t,rfl⟩:=r1
  exact⟨some i,H1,I1,.int i t,q⟩
def SlR (X:Cx) (r:V→Option Int→Option Int→Hp→VK→Prop):Prop :=
  ∀(pins:List (Addr×Obj)) (s:Shared) (σ:St) (H:Hp) (x:V) (v vl vu:Value) (lo hi:Option Int) (sl:Addr) (Q:VK),Inv X pins σ H s→RelV x v→s.heap.IsSliceOf sl vl vu .none→IsPart vl lo→IsPart vu hi→r x lo hi H Q →
    ∃T id,typeLookup (.type T) "__getitem__"=pure (some (.builtin id))∧s.TypeIs v T∧wpAny (model X.prog X.w) X.A (getItem v (.ref sl)) (EP X pins σ Q) X.xe s
def tSl (r:V→Option Int→Option Int→Hp→VK→Prop) (te:TE) (tl th:TO):TE:=fun σ H Q=>te σ H fun x H1=>tl σ H1 fun l H2=>th σ H2 fun u H3=>r x l u H3 Q
theorem pe_slice (hr:SlR X r) (he:PE X e te) (hl:PO X lo tl) (hu:PO X hi th):PE X (.Subscript e (.Slice lo hi none p2) pos) (tSl r te tl th):=by
  intro pins s σ H Q I h
  refine Subscript_ (thn (he pins s σ H _ I h) fun v s1 ⟨x,H1,I1,r1,q1⟩=>?_)
  refine wpAny_Slice (thn (hl pins s1 σ H1 _ I1 q1) fun vl s2 ⟨l,H2,I2,pl,q2⟩=>thn (hu pins s2 σ H2 _ I2 q2) fun vu s3 ⟨u,H3,I3,pu,q3⟩=>?_)
  rw[evalPart_none]
  refine wpAny_pure ?_
  have I4:Inv X pins σ H3 { s3 with heap:=s3.heap.push { cls:=.type "slice",data:=.fields #[vl,vu,.none] } }:=I3.kept (t':=s3.toks) fun b ob q=>Heap.get?_push_of_some _ q
  obtain⟨T,id,hT,ht,hg⟩:=hr pins { s3 with heap:=s3.heap.push { cls:=.type "slice",data:=.fields #[vl,vu,.none] } } σ H3 x v vl vu l u s3.heap.objs.size Q I4 r1 (Heap.IsSliceOf.new ..) pl pu q3
  show wpAny (model X.prog X.w) X.A (subscriptTail e (.Slice lo hi none p2) v (.ref s3.heap.objs.size)) (EP X pins σ Q) X.xe { s3 with heap:=s3.heap.push { cls:=.type "slice",data:=.fields #[vl,vu,.none] } }
  exact tail_any (ops:=[.ref s3.heap.objs.size,v]) ht hT hg (by with_unfolding_all rfl)
def cutV (xs:List V) (lo hi:Option Int):List V:=(xs.drop (HT.sIx xs.length 0 lo)).take (HT.sIx xs.length xs.length hi-HT.sIx xs.length 0 lo)
theorem cutV_length (xs:List V) (lo hi:Option Int):(cutV xs lo hi).length≤xs.length:=by
  unfold cutV
  rw[List.length_take,List.length_drop]
  omega
def rSlT (K:PySem.W.Frag):V→Option Int→Option Int→Hp→VK→Prop:=fun x lo hi H Q=>∃a xs,x = .ref a∧SqT K H a xs ∧
  ¬(HT.sIx xs.length 0 lo=0∧HT.sIx xs.length xs.length hi=xs.length)∧∀p,H p=none→Q (.ref p) (upd H p (.tup (cutV xs lo hi)))
theorem sl_tup:SlR X (rSlT X.K):=by
  intro pins s σ H x v vl vu lo hi sl Q I rx hs pl pu h
  obtain⟨a,xs,rfl,hx,hw,q⟩:=h
  cases rx
  obtain⟨its,r,ht,hz⟩:=I.tuple hx
  have hlen:its.toArray.size=xs.length:=by rw[List.size_toArray];exact r.length.symm
  refine⟨"tuple",_,PyProof.Rows.slot_tuple_getitem.lookup,ht.typeIs,?_⟩
  refine HT.getItem_tuple_cut ht hs pl pu (by rw[hlen];exact hw) ?_ (by rw[hlen];exact hz)
  rw[hlen]
  refine⟨.ref s.heap.objs.size,_,I.laid (t':=s.toks) (o:=.tup (cutV xs lo hi)) (fun b ob q=>Heap.get?_push_of_some _ q) (Nat.le_refl _) ?_,rfl,q _ (I.hok.fresh (Nat.le_refl _))⟩
  exact⟨Nat.le_trans (cutV_length xs lo hi) hz,_,(r.drop (HT.sIx xs.length 0 lo)).take (HT.sIx xs.length xs.length hi-HT.sIx xs.length 0 lo),IsTup.new _ _⟩
def rLtT (K:PySem.W.Frag):R2:=fun x y H Q=>∃a b ns ms,x = .ref a∧y = .ref b∧SqT K H a (ns.map V.int)∧SqT K H b (ms.map V.int)∧Q (.bl (HT.lexLt ns ms)) H
def rCatT (K:PySem.W.Frag):R2:=fun x y H Q=>∃a b xs ys,x = .ref a∧y = .ref b∧SqT K H a xs∧SqT K H b ys∧xs≠[]∧xs.length+ys.length≤sizeLine ∧
  (ys=[]→Q (.ref a) H)∧(ys≠[]→∀p,H p=none→Q (.ref p) (upd H p (.tup (xs++ys))))
end
end L2
namespace L2
open PySem PySem.Spec PyProof.Rows
def ixN (n:Nat) (i:Int):Option Nat:=if 0≤i then (if i<n then some i.toNat else none) else if -(n:Int)≤i then some (i+n).toNat else none
def atI {α:Type} (xs:List α) (i:Int):Option α:=(ixN xs.length i).bind fun j=>xs[j]?
theorem ixN_seq (h:ixN n i=some j):seqIndex? i n=some j∧j<n∧-(n:Int)≤i∧i<n:=by
  unfold ixN at h
  by_cases h0:0≤i
  · rw[if_pos h0] at h
    by_cases h1:i<n
    · rw[if_pos h1] at h
      have e:i.toNat=j:=Option.some.inj h
      exact⟨by rw[seqIndex_of h0 h1,e],by omega,by omega,h1⟩
    · rw[if_neg h1] at h;cases h
  · rw[if_neg h0] at h
    by_cases h1:-(n:Int)≤i
    · rw[if_pos h1] at h
      have e:(i+n).toNat=j:=Option.some.inj h
      exact⟨by rw[seqIndex_neg (by omega) h1,e],by omega,h1,by omega⟩
    · rw[if_neg h1] at h;cases h
theorem atI_get (h:atI xs i=some v):∃j,seqIndex? i xs.length=some j∧xs[j]?=some v∧j<xs.length∧-(xs.length:Int)≤i∧i<xs.length:=by
  unfold atI at h
  cases e:ixN xs.length i with
  | none=>rw[e] at h;cases h
  | some j =>
    rw[e] at h
    obtain⟨h1,h2,h3,h4⟩:=ixN_seq e
    exact⟨j,h1,h,h2,h3,h4⟩
theorem atI_nat {α:Type}{xs:List α}{j:Nat}{v:α} (h:xs[j]?=some v):atI xs (j:Int)=some v:=by
  have hj:j<xs.length:=(List.getElem?_eq_some_iff.mp h).1
  have e:ixN xs.length (j:Int)=some j:=by
    unfold ixN
    rw[if_pos (by omega),if_pos (by omega)];simp
  unfold atI;rw[e];exact h
theorem atI_last (xs:List α) (v:α):atI (xs++[v]) (-1)=some v:=by
  have hl:(xs++[v]).length=xs.length+1:=by simp
  have e:ixN (xs++[v]).length (-1)=some xs.length:=by
    unfold ixN
    rw[hl,if_neg (by decide),if_pos (by omega)]
    congr 1
    omega
  unfold atI
  rw[e]
  show(xs++[v])[xs.length]?=some v
  simp
def PlainIx (b:Expr):Prop:=∀o i,subscripted b false o i=operate [o,i] (getItem o i)
def IxR (X:Cx) (r:R2):Prop :=
  ∀(value slice:Expr) (pins:List (Addr×Obj)) (s:Shared) (σ:St) (H:Hp) (x y:V) (v u:Value) (Q:VK),Inv X pins σ H s→RelV x v→RelV y u→r x y H Q →
    subscripted slice false v u=operate [v,u] (getItem v u)→wpAny (model X.prog X.w) X.A (subscriptTail value slice v u) (EP X pins σ Q) X.xe s
def MtR (X:Cx) (id:String) (r:V→List V→Hp→VK→Prop):Prop :=
  ∀(pins:List (Addr×Obj)) (s:Shared) (σ:St) (H:Hp) (x:V) (xs:List V) (v:Value) (us:List Value) (Q:VK),Inv X pins σ H s→RelV x v→Vals xs us→r x xs H Q →
    wpAny (model X.prog X.w) X.A (call (.builtin id) (v::us)) (EP X pins σ Q) X.xe s
section
variable {X:Cx}{a b:Expr}{ta tb:TE}{pos:Pos}
theorem pe_ix (hr:IxR X r) (ha:PE X a ta) (hb:PE X b tb) (hs:PlainIx b):PE X (.Subscript a b pos) (tOp r ta tb):=by
  intro pins s σ H Q I h
  exact Subscript_ (binT ha hb I h fun v u s2 x y H2 I2 rx ry q=>hr a b pins s2 σ H2 x y v u Q I2 rx ry q (hs _ _))
def rIxL (K:PySem.W.Frag):R2:=fun x y H Q=>∃p xs i v,x = .ref p∧y = .int i∧SqL K H p xs∧atI xs i=some v∧Q v H
def rIxT (K:PySem.W.Frag):R2:=fun x y H Q=>∃p xs i v,x = .ref p∧y = .int i∧SqT K H p xs∧atI xs i=some v∧Q v H
def rIxS:R2:=fun x y H Q=>∃z i c,x = .str z∧y = .int i∧z.length≤sizeLine∧atI z.cps.toList i=some c∧Q (.str ⟨#[c]⟩) H
theorem ix_list:IxR X (rIxL X.K):=by
  intro value slice pins s σ H x y v u Q I rx ry h hs
  obtain⟨p,xs,i,z,rfl,rfl,hq,he,q⟩:=h
  cases rx
  obtain⟨t,rfl⟩:=ry
  obtain⟨its,r,pl,hz⟩:=I.list hq
  obtain⟨j,h1,h2,h3,h4,h5⟩:=atI_get he
  obtain⟨w,ew,rw'⟩:=r.get h2
  have hl:=r.length
  have hn:=line63
  have fin:EP X pins σ Q w s:=⟨z,H,I,rw',q⟩
  by_cases h0:0≤i
  · have hj:i.toNat=j:=by
      rw[seqIndex_of h0 h5] at h1
      exact Option.some.inj h1
    exact item_listR pl.isList h0 (by omega) (by rw[hj];simpa using ew) fin hs
  · have hj:(i+(its.toArray.size:Int)).toNat=j:=by
      rw[seqIndex_neg (by omega) h4] at h1
      rw[List.size_toArray,← hl]
      exact Option.some.inj h1
    exact subscriptTail_builtinR (x:=w) pl.isList.typeIs slot_list_getitem.lookup
      (wpAny_getItem_list_neg (Q:=fun r s'=>r=w∧EP X pins σ Q r s') pl.isList (by omega) (by rw[List.size_toArray] <;> omega) (by omega) (by rw[hj];simpa using ew) ⟨rfl,fin⟩) hs
theorem ix_tup:IxR X (rIxT X.K):=by
  intro value slice pins s σ H x y v u Q I rx ry h hs
  obtain⟨p,xs,i,z,rfl,rfl,hq,he,q⟩:=h
  cases rx
  obtain⟨t,rfl⟩:=ry
  obtain⟨its,r,pl,hz⟩:=I.tuple hq
  obtain⟨j,h1,h2,h3,h4,h5⟩:=atI_get he
  obtain⟨w,ew,rw'⟩:=r.get h2
  have hl:=r.length
  have hn:=line63
  have fin:EP X pins σ Q w s:=⟨z,H,I,rw',q⟩
  exact subscriptTail_builtinR (x:=w) pl.typeIs slot_tuple_getitem.lookup
    (getItem_tuple (j:=j) (Q:=fun r s'=>r=w∧EP X pins σ Q r s') pl (by omega) (by omega) (by rw[List.size_toArray,← hl];exact h1) (by simpa using ew) ⟨rfl,fin⟩) hs
def rIx (K:PySem.W.Frag):R2:=fun x y H Q=>rIxL K x y H Q∨rIxT K x y H Q∨rIxS x y H Q
def rSetL:V→V→V→Hp→(Hp→Prop)→Prop:=fun o i v H Q=>∃p xs k j,o = .ref p∧i = .int k∧H p=some (.lst xs)∧ixN xs.length k=some j∧Q (upd H p (.lst (xs.set j v)))
theorem slice_bounds (lo hi:Option Int) (n:Nat):(sliceBounds lo hi none n).1=((HT.sIx n 0 lo:Nat):Int)∧(sliceBounds lo hi none n).2.1=((HT.sIx n n hi:Nat):Int)∧(sliceBounds lo hi none n).2.2=1:=by
  refine⟨?_,?_,rfl⟩
  · cases lo with
    | none=>simp[sliceBounds,HT.sIx]
    | some i =>
      simp only[sliceBounds,HT.sIx,Option.getD_none,show(1:Int)>0 by decide,if_true]
      by_cases h:i<0
      · simp only[h,if_true] <;> omega
      · simp only[h,if_false] <;> omega
  · cases hi with
    | none=>simp[sliceBounds,HT.sIx]
    | some i =>
      simp only[sliceBounds,HT.sIx,Option.getD_none,show(1:Int)>0 by decide,if_true]
      by_cases h:i<0
      · simp only[h,if_true] <;> omega
      · simp only[h,if_false] <;> omega
theorem slicePick_cut (its:List Value) (lo hi:Option Int):slicePick its.toArray lo hi none=((its.drop (HT.sIx its.length 0 lo)).take (HT.sIx its.length its.length hi-HT.sIx its.length 0 lo)).toArray:=by
  obtain⟨h1,h2,h3⟩:=slice_bounds lo hi its.toArray.size
  unfold slicePick
  rw[h1,h2,h3]
  simp only[sliceRange_one,pick_run,List.size_toArray] <;> rfl
def rSlL (K:PySem.W.Frag):V→Option Int→Option Int→Hp→VK→Prop:=fun x lo hi H Q=>∃a xs,x = .ref a∧SqL K H a xs∧∀p,H p=none→Q (.ref p) (upd H p (.lst (cutV xs lo hi)))
theorem sl_list:SlR X (rSlL X.K):=by
  intro pins s σ H x v vl vu lo hi sl Q I rx hs pl pu h
  obtain⟨a,xs,rfl,hx,q⟩:=h
  cases rx
  obtain⟨its,r,ht,hz⟩:=I.list hx
  have hlen:=r.length
  refine⟨"list",_,slot_list_getitem.lookup,ht.isList.typeIs,?_⟩
  refine wpAny_getItem_list_slice ht.isList hs pl pu .none (by simp) ?_ (by rw[List.size_toArray] <;> omega)
  rw[slicePick_cut,← hlen]
  refine⟨.ref s.heap.objs.size,_,I.laid (t':=s.toks) (o:=.lst (cutV xs lo hi)) (fun b ob q=>Heap.get?_push_of_some _ q) (Nat.le_refl _) ?_,rfl,q _ (I.hok.fresh (Nat.le_refl _))⟩
  exact⟨Nat.le_trans (cutV_length xs lo hi) hz,_,0,(r.drop (HT.sIx xs.length 0 lo)).take (HT.sIx xs.length xs.length hi-HT.sIx xs.length 0 lo),Heap.get?_push_size _ rfl⟩
def flatV:V→Bool
  | .non=>true
  | .bl _=>true
  | .int _=>true
  | .str _=>true
  | _=>false
def eqV:V→V→Bool
  | .non,.non=>true
  | .bl a,.bl b=>a == b
  | .bl a,.int b=>(if a then 1 else 0) == b
  | .int a,.bl b=>a == (if b then 1 else 0)
  | .int a,.int b=>a == b
  | .str a,.str b=>a == b
  | _,_=>false
theorem eqAt_V (ry:RelV y u) (rx:RelV x v) (fy:flatV y=true) (fx:flatV x=true):SeqAt.EqAt A s u v (eqV y x):=by
  cases y with
  | non =>
    cases ry
    cases x with
    | non=>cases rx;exact SeqAt.EqAt.same _
    | bl b=>cases rx;exact SeqAt.EqAt.none_bool b
    | int b=>obtain⟨t,rfl⟩:=rx;exact SeqAt.EqAt.none_int b t
    | str b=>obtain⟨t,rfl⟩:=rx;exact SeqAt.EqAt.none_str b t
    | _=>exact absurd (show false=true from fx) Bool.false_ne_true
  | bl a =>
    cases ry
    cases x with
    | non=>cases rx;exact SeqAt.EqAt.bool_none a
    | bl b=>cases rx;exact SeqAt.EqAt.bool_bool a b
    | int b=>obtain⟨t,rfl⟩:=rx;exact SeqAt.EqAt.bool_int a b t
    | str b=>obtain⟨t,rfl⟩:=rx;exact SeqAt.EqAt.bool_str a b t
    | _=>exact absurd (show false=true from fx) Bool.false_ne_true
  | int a =>
    obtain⟨t',rfl⟩:=ry
    cases x with
    | non=>cases rx;exact SeqAt.EqAt.int_none a t'
    | bl b=>cases rx;exact SeqAt.EqAt.int_bool a t' b
    | int b=>obtain⟨t,rfl⟩:=rx;exact SeqAt.EqAt.int_int a t' b t
    | str b=>obtain⟨t,rfl⟩:=rx;exact SeqAt.EqAt.int_str a t' b t
    | _=>exact absurd (show false=true from fx) Bool.false_ne_true
  | str a =>
    obtain⟨t',rfl⟩:=ry
    cases x with
    | non=>cases rx;exact SeqAt.EqAt.str_none a t'
    | bl b=>cases rx;exact SeqAt.EqAt.str_bool a t' b
    | int b=>obtain⟨t,rfl⟩:=rx;exact SeqAt.EqAt.str_int a t' b t
    | str b=>obtain⟨t,rfl⟩:=rx;exact SeqAt.EqAt.str_str a t' b t
    | _=>exact absurd (show false=true from fx) Bool.false_ne_true
  | _=>exact absurd (show false=true from fy) Bool.false_ne_true
def eqU (x:V) (u:Value):Bool:=match u with
  | .none=>eqV .non x
  | .bool b=>eqV (.bl b) x
  | .int i _=>eqV (.int i) x
  | .str z _=>eqV (.str z) x
  | _=>false
theorem eqU_of (r:RelV y u) (f:flatV y=true):eqU x u=eqV y x:=by
  cases y with
  | non=>cases r;rfl
  | bl b=>cases r;rfl
  | int i=>obtain⟨t,rfl⟩:=r;rfl
  | str z=>obtain⟨t,rfl⟩:=r;rfl
  | _=>exact absurd (show false=true from f) Bool.false_ne_true
theorem any_eqU:∀{xs:List V}{us:List Value},Vals xs us→xs.all flatV=true→us.any (eqU x)=xs.any fun y=>eqV y x
  | _,_,.nil,_=>rfl
  | y::xs,u::us,.cons r t,f=>by
    rw[List.all_cons,Bool.and_eq_true] at f
    rw[List.any_cons,List.any_cons,eqU_of r f.1,any_eqU t f.2]
theorem mem_eqAt (rx:RelV x v) (fx:flatV x=true):∀{xs:List V}{us:List Value},Vals xs us→xs.all flatV=true→∀u∈us,SeqAt.EqAt A s u v (eqU x u)
  | _,_,.nil,_=>fun u hu=>by cases hu
  | y::xs,u::us,.cons r t,f=>fun u' hu=>by
    rw[List.all_cons,Bool.and_eq_true] at f
    rcases List.mem_cons.mp hu with rfl | hu
    · rw[eqU_of r f.1];exact eqAt_V r rx f.1 fx
    · exact mem_eqAt rx fx t f.2 u' hu
def inV (x:V) (xs:List V):Bool:=xs.any fun y=>eqV y x
def rIn (K:PySem.W.Frag) (neg:Bool):R2:=fun x y H Q=>∃p xs,y = .ref p∧(SqL K H p xs∨SqT K H p xs)∧flatV x=true∧xs.all flatV=true∧Q (.bl (if neg then !inV x xs else inV x xs)) H
theorem op_notIn_seq:OpR X (compareOp .NotIn) (rIn X.K true):=by
  intro pins s σ H x y v u Q I rx ry h
  obtain⟨p,xs,rfl,hq,fx,fs,q⟩:=h
  cases ry
  rcases hq with hq | hq
  · obtain⟨its,r,pl,hz⟩:=I.list hq
    refine SeqAt.notIn_listAt (eqU x) pl.isList (fun w hw=>mem_eqAt rx fx r fs w (by simpa using hw)) ⟨.bl _,H,I,rfl,?_⟩
    rw[show its.toArray.any (eqU x)=its.any (eqU x) by simp,any_eqU r fs]
    exact q
  · obtain⟨its,r,pl,hz⟩:=I.tuple hq
    refine SeqAt.notIn_tupleAt (eqU x) pl (fun w hw=>mem_eqAt rx fx r fs w (by simpa using hw)) ⟨.bl _,H,I,rfl,?_⟩
    rw[show its.toArray.any (eqU x)=its.any (eqU x) by simp,any_eqU r fs]
    exact q
theorem call_len_seq:CallR X (.builtin "len") (fun xs H Q=>∃p ys,xs=[.ref p]∧(SqL X.K H p ys∨SqT X.K H p ys)∧Q (.int ys.length) H):=by
  intro pins s σ H xs us Q I r h
  obtain⟨p,ys,rfl,hq,q⟩:=h
  obtain⟨u,rfl,rx⟩:=vals1 r
  cases rx
  have hn:=line63
  rcases hq with hq | hq
  · obtain⟨its,r',pl,hz⟩:=I.list hq
    have hlen:=r'.length
    exact Calls.call_len_list pl.isList (by simp only[List.size_toArray] <;> omega) ⟨.int ys.length,H,I.tok _,⟨s.toks+1,by rw[List.size_toArray,hlen]⟩,q⟩
  · obtain⟨its,r',pl,hz⟩:=I.tuple hq
    have hlen:=r'.length
    exact len_tuple pl (by simp only[List.size_toArray] <;> omega) ⟨.int ys.length,H,I.tok _,⟨s.toks+1,by rw[List.size_toArray,hlen]⟩,q⟩
theorem call_len_str:CallR X (.builtin "len") (fun xs H Q=>∃z,xs=[.str z]∧z.length≤sizeLine∧Q (.int z.length) H):=by
  intro pins s σ H xs us Q I r h
  obtain⟨z,rfl,hz,q⟩:=h
  obtain⟨u,rfl,t,rfl⟩:=vals1 r
  have hn:=line63
  exact len_str (by omega) ⟨.int z.length,H,I.tok _,⟨_,rfl⟩,q⟩
theorem call_list_of:CallR X (.type "list") (fun xs H Q=>∃p ys,xs=[.ref p]∧(SqL X.K H p ys∨SqT X.K H p ys)∧∀l,H l=none→Q (.ref l) (upd H l (.lst ys))):=by
  intro pins s σ H xs us Q I r h
  obtain⟨p,ys,rfl,hq,q⟩:=h
  obtain⟨u,rfl,rx⟩:=vals1 r
  cases rx
  have fin:∀(its:List Value),Vals ys its→ys.length≤sizeLine→∀(h':Heap) (c':Nat),(∀b o',s.heap.get? b=some o'→h'.get? b=some o') →
      h'.get? s.heap.objs.size=some { cls:=.type "list",dict:=none,data:=.seq its.toArray c',slots:=#[] }→EP X pins σ Q (.ref s.heap.objs.size) { s with heap:=h' }:=fun its r' hz h' c' kp e =>
    ⟨.ref s.heap.objs.size,_,I.laid (t':=s.toks) kp (Nat.le_refl _) (show ObjOk X.prog X.w _ h' _ (.lst ys) from⟨hz,its,c',r',e⟩),rfl,q _ (I.hok.fresh (Nat.le_refl _))⟩
  rcases hq with hq | hq
  · obtain⟨its,r',pl,hz⟩:=I.list hq
    have hlen:=r'.length
    obtain⟨o,ho,hc,n,hd⟩:=pl.isList
    exact call_list_seq p (.inl rfl) ho hc hd (fun h' c' kp e=>fin its r' hz h' c' kp e) (by simp only[List.size_toArray] <;> omega)
  · obtain⟨its,r',pl,hz⟩:=I.tuple hq
    have hlen:=r'.length
    obtain⟨o,ho,hc,n,hd⟩:=pl
    exact call_list_seq p (.inr rfl) ho hc hd (fun h' c' kp e=>fin its r' hz h' c' kp e) (by simp only[List.size_toArray] <;> omega)
def tyV (K:PySem.W.Frag) (T:String) (x:V) (H:Hp):Prop:=match x with
  | .str _=>T="str"
  | .int _=>T="int"
  | .ref p=>(T="list"∧∃xs,SqL K H p xs)∨(T="tuple"∧∃o,K.lookup p=some o∧o.cls = .type "tuple"∧o.dict=none) ∨
      (T="dict"∧((∃kvs,H p=some (.dK kvs))∨∃kvs,H p=some (.dT kvs)))∨(T="set"∧∃S n,H p=some (.set S n))
  | _=>False
theorem tyV_is (I:Inv X pins σ H s) (r:RelV x v) (ty:tyV X.K T x H) :
    s.TypeIs v T∧∀a,v = .ref a→∃ob,s.heap.get? a=some ob∧ob.dict=none:=by
  cases x with
  | str z =>
    obtain⟨t,rfl⟩:=r
    cases (show T="str" from ty)
    exact⟨typeIs_str s z t,fun _ e=>nomatch e⟩
  | int i =>
    obtain⟨t,rfl⟩:=r
    cases (show T="int" from ty)
    exact⟨typeIs_int s i t,fun _ e=>nomatch e⟩
  | ref p =>
    cases r
    rcases ty with ⟨rfl,xs,hq⟩ | ⟨rfl,o,hk,hc,hd⟩ | ⟨rfl,hk⟩ | ⟨rfl,S,n,hk⟩
    · obtain⟨its,_,pl,_⟩:=I.list hq
      refine⟨pl.isList.typeIs,fun a e=>?_⟩
      cases e
      obtain⟨o,n,e,c,hd,_⟩:=pl
      exact⟨o,e,hd⟩
    · refine⟨⟨o,I.kIn p o hk,hc⟩,fun a e=>?_⟩
      cases e
      exact⟨o,I.kIn _ o hk,hd⟩
    · have z:∃o,s.heap.get? p=some o∧o.ExactDict:=by
        rcases hk with ⟨kvs,hk⟩ | ⟨kvs,hk⟩
        · obtain⟨_,_,_,_,o,_,_,e,ex,_⟩:=I.hok p _ hk
          exact⟨o,e,ex⟩
        · obtain⟨_,_,_,_,o,_,_,e,ex,_⟩:=I.hok p _ hk
          exact⟨o,e,ex⟩
      obtain⟨o,e,ex⟩:=z
      refine⟨⟨o,e,ex.1⟩,fun a e2=>?_⟩
      cases e2
      exact⟨o,e,ex.2.1⟩
    · obtain⟨o,_,_,_,e,ex,_⟩:=I.hok p _ hk
      refine⟨⟨o,e,ex.1⟩,fun a e2=>?_⟩
      cases e2
      exact⟨o,e,ex.2.1⟩
  | _=>exact False.elim ty
def tBM0 (K:PySem.W.Frag) (T:String) (r:V→List V→Hp→VK→Prop) (to:TE):TE:=fun σ H Q=>to σ H fun x H1=>tyV K T x H1∧r x [] H1 Q
def tBM (K:PySem.W.Frag) (T:String) (r:V→List V→Hp→VK→Prop) (to:TE) (t:TA):TE:=fun σ H Q=>to σ H fun x H1=>tyV K T x H1∧t σ H1 fun xs H2=>r x xs H2 Q
variable {o e:Expr}{es:List Expr}{to:TE}{t:TA}{name:Str}{apos cpos:Pos}{T id:String}{r:V→List V→Hp→VK→Prop}
theorem pe_bm (pa:PlainAttrs T) (slot:Slot T name id) (hty:typeOf (.builtin id)=pure (.type "method_descriptor")) (hm:MtR X id r) (ho:PE X o to) (ha:PA X (e::es) t)
    (hbase:attributeBase o name X.env (eval o X.env)=eval o X.env:=by rfl)
    (hfew:((backTo cpos (starEach (e::es) X.env)).all (fun x=>!x.1)&&(backToKw cpos (keywordEach [] X.env)).all (fun x=>x.1.isSome)
      && decide ((e::es).length+([]:List Keyword).length+(if ([]:List Keyword).isEmpty then 0 else 1)<30))=true:=by rfl)
    (hline:(apos.endLine == cpos.line)=true:=by rfl) (hs:starEach (e::es) X.env=(false,eval e X.env)::starEach es X.env:=by rfl) (hplain:(backTo cpos (starEach es X.env)).any (·.1)=false:=by rfl) :
    PE X (.Call (.Attribute o name apos) (e::es) [] cpos) (tBM X.K T r to t):=by
  intro pins s σ H Q I h
  refine wpAny_Call_method_late hbase hfew hline rfl (thn (ho pins s σ H _ I h) fun v s1 ⟨x,H1,I1,r1,ty,q1⟩=>?_)
  obtain⟨h1,h2⟩:=tyV_is I1 r1 ty
  refine⟨T,id,pa,slot,hty,h1,h2,?_⟩
  have hA:=ha cpos pins s1 σ H1 _ I1 q1
  rw[hs] at hA⊢
  refine Calls.callWith_builtin (by show(false||(backTo cpos (starEach es X.env)).any (·.1))=false;rw[hplain] <;> rfl) (Calls.evalArgs_plain ?_)
  exact thn hA fun us s2 ⟨vs,H2,I2,r2,q2⟩=>hm pins s2 σ H2 x vs v us Q I2 r1 r2 q2
end
end L2
namespace L2
open PySem PySem.Spec PyProof.Rows
def MtM (X:Cx) (id:String) (r:V→List V→Hp→VK→Prop):Prop :=
  ∀(pins:List (Addr×Obj)) (s:Shared) (σ:St) (H:Hp) (x:V) (xs:List V) (v:Value) (us:List Value) (Q:VK),Inv X pins σ H s→RelV x v→Vals xs us→r x xs H Q →
    wpAny (model X.prog X.w) X.A (call (.builtin id) (v::us)) (EP X pins σ Q) X.xe s
theorem Vals.one:∀{x:V}{us:List Value},Vals [x] us→∃u,us=[u]∧RelV x u
  | _,_,.cons r .nil=>⟨_,rfl,r⟩
theorem Vals.rep (h:Vals xs us):∀k:Nat,Vals (List.replicate k xs).flatten (List.replicate k us).flatten
  | 0=>.nil
  | k+1=>by
    rw[List.replicate_succ,List.replicate_succ,List.flatten_cons,List.flatten_cons]
    exact Vals.append h (Vals.rep h k)
theorem foldl_rep (its:List Value):∀(k:Nat) (acc:List Value),
    List.foldl (fun x1 x2=>x1++x2) acc.toArray (List.replicate k its.toArray)=(acc++(List.replicate k its).flatten).toArray
  | 0,acc=>by simp
  | k+1,acc=>by
    have e:acc.toArray++its.toArray=(acc++its).toArray:=by simp
    have e2:(acc++its)++(List.replicate k its).flatten=acc++(List.replicate (k+1) its).flatten:=by
      rw[List.replicate_succ,List.flatten_cons,List.append_assoc]
    rw[← e2,← foldl_rep its k (acc++its),← e,List.replicate_succ,List.foldl_cons]
section
variable {X:Cx}{pins:List (Addr×Obj)}{σ:St}{H:Hp}{s:Shared}{l b:Addr}{xs ys zs:List V}
theorem Inv.lset {its its':List Value}{n:Nat}{f:Array Value→Array Value}{t':Nat} (I:Inv X pins σ H s) (hH:H l=some (.lst xs))
    (e:s.heap.get? l=some { cls:=.type "list",data:=.seq its.toArray n }) (hf:f its.toArray=its'.toArray) (hv:Vals ys its') (hz:ys.length≤sizeLine) :
    Inv X pins σ (upd H l (.lst ys)) { s with heap:=s.heap.update l (Obj.mapSeq f),toks:=t' }:=by
  have q:=PySem.IsL.update e f
  rw[hf] at q
  refine I.write (x:=l) (e:=l) (by rw[hH];exact trivial) (.inl rfl) (fun b' u hb hu=>(Heap.get?_update_other s.heap (Obj.mapSeq f) (Ne.symm hb)).trans hu) ⟨_,q⟩ ?_
  exact⟨hz,its',_,hv,q⟩
theorem Inv.lnew (I:Inv X pins σ H s) (hv:Vals ys its) (hz:ys.length≤sizeLine) :
    Inv X pins σ (upd H s.heap.objs.size (.lst ys)) { s with heap:=s.heap.push { cls:=.type "list",data:=.seq its.toArray },toks:=t' } :=
  I.laid (fun _ _ q=>Heap.get?_push_of_some _ q) (Nat.le_refl _) ⟨hz,its,0,hv,Heap.get?_push_size _ rfl⟩
theorem Inv.fresh (I:Inv X pins σ H s):H s.heap.objs.size=none:=I.hok.fresh (Nat.le_refl _)
theorem Inv.lstM (I:Inv X pins σ H s) (hH:H l=some (.lst xs)):xs.length≤sizeLine∧∃(its:List Value) (n:Nat),Vals xs its∧xs.length=its.length∧s.heap.get? l=some { cls:=.type "list",data:=.seq its.toArray n }:=by
  obtain⟨z,its,n,r,e⟩:=I.hok l _ hH
  exact⟨z,its,n,r,r.length,e⟩
theorem notLongL (h:n≤sizeLine):Builtin.List.listTooLong n=false:=by
  unfold Builtin.List.listTooLong
  exact decide_eq_false (by omega)
end
section
variable {X:Cx}
def rAppend:V→List V→Hp→VK→Prop:=fun x vs H Q=>∃l xs y,x = .ref l∧vs=[y]∧H l=some (.lst xs)∧xs.length<sizeLine∧Q .non (upd H l (.lst (xs++[y])))
theorem mt_append:MtM X "list.append" rAppend:=by
  intro pins s σ H x vs v us Q I rx rv h
  obtain⟨l,xs,y,rfl,rfl,hH,hz,q⟩:=h
  cases rx
  obtain⟨u,rfl,ru⟩:=rv.one
  obtain⟨z,its,n,r,hl,e⟩:=I.lstM hH
  refine call_meets F.slot_list_append ⟨_,e,rfl⟩ F.entry_list_append (F.args_list_append_2 _ _) (PySem.list_append l its.toArray n u (by rw[List.size_toArray];omega)) ⟨e,?_⟩
  refine⟨.non,_,I.lset (its':=its++[u]) hH e (by simp) (r.append (.cons ru .nil)) ?_,rfl,q⟩
  rw[List.length_append,List.length_singleton]
  omega
def rExtend:V→List V→Hp→VK→Prop:=fun x vs H Q=>∃l b xs zs,x = .ref l∧vs=[.ref b]∧H l=some (.lst xs)∧H b=some (.lst zs)∧xs.length+zs.length≤sizeLine∧Q .non (upd H l (.lst (xs++zs)))
def rPop:V→List V→Hp→VK→Prop:=fun x vs H Q=>∃l xs y,x = .ref l∧vs=[]∧H l=some (.lst xs)∧xs[xs.length-1]?=some y∧Q y (upd H l (.lst xs.dropLast))
def rPopAt:V→List V→Hp→VK→Prop:=fun x vs H Q=>∃l xs i k y,x = .ref l∧vs=[.int i]∧H l=some (.lst xs)∧-(2^63)≤i∧i<2^63∧seqIndex? i xs.length=some k∧xs[k]?=some y∧Q y (upd H l (.lst (xs.eraseIdx k)))
def rReverse:V→List V→Hp→VK→Prop:=fun x vs H Q=>∃l xs,x = .ref l∧vs=[]∧H l=some (.lst xs)∧Q .non (upd H l (.lst xs.reverse))
def rClear:V→List V→Hp→VK→Prop:=fun x vs H Q=>∃l xs,x = .ref l∧vs=[]∧H l=some (.lst xs)∧Q .non (upd H l (.lst []))
def rCat:R2:=fun x y H Q=>∃l b xs zs,x = .ref l∧y = .ref b∧H l=some (.lst xs)∧H b=some (.lst zs)∧xs.length+zs.length≤sizeLine∧∀p,H p=none→Q (.ref p) (upd H p (.lst (xs++zs)))
def rRep:R2:=fun x y H Q=>∃l k xs,x = .ref l∧y = .int k∧H l=some (.lst xs)∧-(2^63)≤k∧k<2^63∧xs.length*k.toNat≤sizeLine ∧
  ∀p,H p=none→Q (.ref p) (upd H p (.lst (List.replicate k.toNat xs).flatten))
theorem len_rep (xs:List α) (k:Nat):(List.replicate k xs).flatten.length=k*xs.length:=by
  induction k with
  | zero=>simp
  | succ k ih=>rw[List.replicate_succ,List.flatten_cons,List.length_append,ih,Nat.succ_mul,Nat.add_comm]
theorem op_rep:OpR X (binaryOp .Mult) rRep:=by
  intro pins s σ H x y v u Q I rx ry h
  obtain⟨l,k,xs,rfl,rfl,hH,h1,h2,hz,q⟩:=h
  cases rx
  obtain⟨t,rfl⟩:=ry
  obtain⟨z,its,n,r,hl,e⟩:=I.lstM hH
  have hlen:its.toArray.size*k.toNat≤sizeLine:=by rw[List.size_toArray,← hl];exact hz
  have hcap:¬its.toArray.size*k.toNat>(2^63-1)/8:=by
    have:(sizeLine:Nat)≤(2^63-1)/8:=by decide
    omega
  have hfit:¬(!Builtin.List.listFitsIndex k)=true:=by
    rw[fitsIndex_both h1 h2]
    exact Bool.false_ne_true
  have hlong:¬Builtin.List.listTooLong (its.toArray.size*k.toNat)=true:=by
    rw[notLongL hlen]
    exact Bool.false_ne_true
  have hnew:List.foldl (fun x1 x2=>x1++x2) #[] (List.replicate (if its.toArray.isEmpty=true then 0 else k.toNat) its.toArray)=(List.replicate k.toNat its).flatten.toArray:=by
    have f0:∀m:Nat,List.foldl (fun x1 x2=>x1++x2) #[] (List.replicate m its.toArray)=(List.replicate m its).flatten.toArray:=fun m=>by
      have:=foldl_rep its m []
      rw[List.nil_append] at this
      exact this
    rw[f0]
    cases its with
    | nil=>simp
    | cons a r'=>rw[if_neg (by simp)]
  refine wpAny_binaryOp_repeat_ref (T:="list") (U:="int") (by decide) ⟨_,e,rfl⟩ (fun s'=>typeIs_int s' k t) noFill_list_mul F.fills_int_mul F.slot_int_rmul repeat_list F.slot_int_index.lookup
    (call_meets F.slot_int_rmul (typeIs_int s k t) F.entry_int_rmul (F.args_int_rmul_2 _ _) (int___rmul___int_list k t l its.toArray n)
      ⟨e,rfl,⟨_,e,rfl⟩,call_meets F.slot_list_mul ⟨_,e,rfl⟩ F.entry_list_mul (F.args_list_mul_2 _ _) (AutoListH.list___mul___list_int_3 l its.toArray n k t hfit hcap hlong) ⟨e,?_⟩⟩)
  rw[hnew]
  exact⟨.ref _,_,I.lnew (t':=s.toks) (r.rep k.toNat) (by rw[len_rep,Nat.mul_comm];exact hz),rfl,q _ I.fresh⟩
end
section
variable {prog:Program}{w:World}{A:Around}{E:Value→Shared→Prop}{s:Shared}
set_option maxRecDepth 100000 in
end
section
variable {X:Cx}
end
end L2
namespace Att
open PySem PySem.W PySem.Calls PyProof.Rows
theorem ints_of_wellAll:∀(ns:List Int) (vs:List Value),WellAll P h vs (ns.map WData.int)→IntsAre vs ns:=by
  intro ns
  induction ns with
  | nil =>
    intro vs w
    rw[List.map_nil] at w
    cases w
    exact .nil
  | cons n ns ih =>
    intro vs w
    rw[List.map_cons] at w
    cases w with
    | cons a b =>
      cases a
      exact .cons _ _ (ih _ b)
theorem script_of {l:OpenLaw}{n:Nat} (hn:l.most=some n){P:Params}{h:Heap}{args:List WData}{vals:List Value}
    (hpre:l.row.toRowW.claim.pre args=true) (hwl:WellAll P h vals args) :
    ∃a vs ns,vals=[Value.ref a]∧args=[WData.list (ns.map WData.int)]∧h.get? a=some { cls:=.type "list",data:=.seq vs.toArray }∧IntsAre vs ns∧ns.length≤n:=by
  have hsh:WShape.hasAll [] args [.list .int]=true:=(pre_splitW hpre).1
  have hc:l.pre.holds [] { args:=args }=true:=(pre_splitW hpre).2
  obtain⟨d,r,rfl,h1,h2⟩:=hasAllW_cons hsh
  obtain rfl:=hasAllW_nil h2
  obtain⟨xs,rfl,h3⟩:=hasW_list h1
  obtain⟨ns,rfl⟩:=items_int h3
  have hlen:ns.length≤n:=by
    unfold OpenLaw.pre at hc
    have h4:(WTm.not (.lt (.lit (.int (n:Int))) (.len (.arg 0)))).holds [] { args:=[.list (ns.map .int)] }=true:=by
      have h4:=(holds_andW hc).1
      rw[hn] at h4
      exact h4
    have h5:=condW_of h4 (w_not (w_lt w_lit (w_len_list (w_arg rfl))))
    rw[List.length_map] at h5
    refine Nat.le_of_not_lt fun q=>?_
    have q':(n:Int)<((ns.length:Nat):Int):=by omega
    first
      | (rw[decide_eq_true q'] at h5;exact absurd h5 (by decide))
      | (simp at h5;omega)
  cases hwl with
  | cons w1 w2 =>
    cases w2
    cases w1 with
    | list ho hall=>exact⟨_,_,ns,rfl,rfl,ho,ints_of_wellAll ns _ hall,hlen⟩
theorem post_true (l:OpenLaw) (args:List WData):l.row.toRowW.claim.post args (.bool true) args=true :=
  postW_of (r:=l.row.toRowW) (X:=(true == true))
    (show WShape.has [] (.bool true) .bool=true by first | rfl | decide | simp[WShape.has,WShape.arms,WShape.armsAll])
    (show(WTm.eq .res (.lit (.bool true))).value [] { args:=args,res:=some (.bool true),after:=args }=some (.bool (true == true)) from w_eq_bool (w_res rfl) w_lit) rfl
section
variable {prog:Program}{w:World}{A:Around}{E:Value→Shared→Prop}{s:Shared}{K:Frag}
def noObjs (h:Heap):Heap:={ h with objs:=#[] }
def ledger (h:Heap) (L d:Addr):List (Addr×Obj):=(List.range h.objs.size).filterMap fun a=>if a=L∨a=d then none else (h.get? a).map fun o=>(a,o)
end
end Att
namespace L2
open PySem PySem.Spec PyProof.Rows
theorem vals_ints:∀{vs:List Value}{ns:List Int},IntsAre vs ns→Vals (ns.map V.int) vs
  | _,_,.nil=>.nil
  | _,_,.cons n t h=>.cons ⟨t,rfl⟩ (vals_ints h)
def Only (H:Hp):Prop:=∀b,H b=none∨∃o xs,H b=some (.frz o (.lst xs))
theorem law_call {P:Program}{w:World}{K:PySem.W.Frag}{mg mb:Str→Option Value}{CX:CXT}{k:Nat}{fa a:Addr}{fd:FuncData}{x:Str}{sp:Sp}{s₁:Shared}{vs:List Value}{ns:List Int}
    (KX:K.In s₁.heap) (hns:s₁.heap.Ns mainGlobals mg) (hb:s₁.heap.Ns builtinsNs mb) (hbb:∀x:Str,x≠"__name__"→mb x=bootBuiltins x) (hlim:s₁.heap.NoLimit) (hg:s₁.gens=#[])
    (ha:s₁.heap.get? a=some { cls:=.type "list",data:=.seq vs.toArray }) (hi:IntsAre vs ns) (hl:ns.length≤sizeLine) (hr:Room k callerA)
    (F:∀base:Heap,K.In base→base.Ns mainGlobals mg→FnOk P w K mg base CX k fa fd [x] sp) (hbind:∀(s:Shared) (u:Value),BindsTo s fd ⟨[u],[]⟩ [(x,u)])
    (hsp:∀H:Hp,Only H→SqL K H a (ns.map V.int)→sp [.ref a] H (fun v _=>v = .bl true) fun _ _ _=>False)
    (hCX:∀H e s',CX [] H s₁ (fun _ _ _=>False) e s'→False) :
    codeAny (model P w) callerA (.call (.ref fa) ⟨[.ref a],[]⟩) (fun r s'=>r = .ok (.ret (.bool true))∧OldK s₁.heap s'.heap∧s'.os=s₁.os∧AllBare s'.gens) s₁:=by
  have rv:=vals_ints hi
  have lenV:=hi.length
  have core:∀H:Hp,Only H→SqL K H a (ns.map V.int)→HOk P w H s₁.heap→(∀b,H b≠none→b=a)→(H a≠none→K.lookup a=none) →
      codeAny (model P w) callerA (.call (.ref fa) ⟨[.ref a],[]⟩) (fun r s'=>r = .ok (.ret (.bool true))∧OldK s₁.heap s'.heap∧s'.os=s₁.os∧AllBare s'.gens) s₁:=by
    intro H hO hS hok hA hK
    have base_of:∀{b:Addr}{o:Obj},s₁.heap.get? b=some o→H b=none→(hidT s₁.heap H).get? b=some o:=fun e n=>hidT_get e n
    have noA:∀{b:Addr}{o:Obj}{es:Array DictEntry}{ep:Nat},s₁.heap.get? b=some o→o.data = .dict es ep→H b=none:=fun {b o es ep} e d=>by
      cases q:H b with
      | none=>rfl
      | some u =>
        have e':b=a:=hA b (by rw[q];simp)
        subst e'
        rw[ha] at e;cases e
        have d':Data.seq vs.toArray _=Data.dict es ep:=d
        cases d'
    have nsK:∀{b:Addr}{m:Str→Option Value},s₁.heap.Ns b m→(hidT s₁.heap H).Ns b m:=fun {b m} ⟨o,es,ep,e,d,r⟩=>⟨o,es,ep,base_of e (noA e d),d,r⟩
    have hKb:K.In (hidT s₁.heap H):=fun b o e=>base_of (KX b o e) (by
      cases q:H b with
      | none=>rfl
      | some u =>
        have e':b=a:=hA b (by rw[q];simp)
        subst e'
        rw[hK (by rw[q];simp)] at e;cases e)
    have hM:Mod K mg (hidT s₁.heap H):=⟨hKb,nsK hns,⟨mb,nsK hb,hbb⟩,let ⟨mc,h1,h2⟩:=hlim;⟨mc,nsK h1,h2⟩⟩
    have e0:Env0 P w K mg (hidT s₁.heap H) callerA [] s₁ H:=⟨rfl,hM,fun b o e=>of_hidT e,Nat.le_of_eq (hidT_size _ _),trivial,fun b hb=>absurd (show b∈([]:List Addr) from hb) (by simp),hok,.of_eq hg⟩
    refine codeAny_mono ((F _ hKb (nsK hns)).run callerA [] s₁ H ⟨[.ref a],[]⟩ [.ref a] [.ref a] _ _ hr e0 (hbind s₁ (.ref a)) (.cons rfl .nil) (hsp H hO hS)) fun r s' h=>?_
    cases r with
    | error e=>exact(hCX H e s' h).elim
    | ok fl =>
      cases fl with
      | next=>exact False.elim h
      | brk=>exact False.elim h
      | cont=>exact False.elim h
      | ret u =>
        obtain⟨v,H',os,bare,un,hok',r',q⟩:=h
        have q':v = .bl true:=q
        subst q'
        obtain rfl:u=Value.bool true:=r'
        refine⟨rfl,OldK.of_keep fun b o e=>?_,os,bare⟩
        cases q:H b with
        | none=>exact un.keep b o e q (by intro z;exact absurd (show b∈([]:List Addr) from z) (by simp)) (by simp)
        | some u =>
          rcases hO b with z | ⟨ob,xs,z⟩
          · rw[q] at z;cases z
          · have z2:=un.frzs b ob _ z
            obtain⟨e1,_⟩:=hok b _ z
            obtain⟨e2,_⟩:=hok' b _ z2
            rw[e] at e1;cases e1
            exact e2
  cases hk:K.lookup a with
  | some o =>
    have e:=KX a o hk
    rw[ha] at e
    cases e
    refine core (fun _=>none) (fun _=>.inl rfl) (.inr ⟨_,vs.toArray,_,hk,rfl,rfl,rfl,by rw[List.size_toArray,lenV];exact hl,by simpa using rv⟩) (fun b u z=>by have z':(none:Option HO)=some u:=z;cases z') (fun b z=>absurd rfl z) fun z=>absurd rfl z
  | none =>
    refine core (fun b=>if b=a then some (.frz { cls:=.type "list",data:=.seq vs.toArray } (.lst (ns.map V.int))) else none) (fun b=>?_) (.inl (.inr ⟨{ cls:=.type "list",data:=.seq vs.toArray },if_pos rfl⟩)) (fun b u z=>?_) (fun b z=>?_) fun _=>hk
    · by_cases hb:b=a
      · exact .inr ⟨_,_,if_pos hb⟩
      · exact .inl (if_neg hb)
    · by_cases hb:b=a
      · have z':=(if_pos hb).symm.trans z
        cases z'
        subst hb
        exact⟨ha,by rw[List.length_map];exact hl,vs,_,rv,ha⟩
      · have z':=(if_neg hb).symm.trans z
        cases z'
    · by_cases hb:b=a
      · exact hb
      · exact absurd (if_neg hb) z
end L2
namespace L2
open PySem PySem.Spec PyProof.Rows
abbrev KOf {K:PySem.W.Frag}{h:Heap} (_:K.In h):PySem.W.Frag:=K
end L2
namespace L2
open PySem PySem.Spec PyProof.Rows
def inClass (s:Stmt) (j:Nat):Stmt:=match s with
  | .ClassDef _ _ _ body _ _ _ _ _ _ _=>body.getD j (.Pass ⟨0,0,0,0⟩)
  | _=>.Pass ⟨0,0,0,0⟩
def defArgs (s:Stmt):Arguments:=match s with
  | .FunctionDef _ a _ _ _ _ _ _ _ _=>a
  | _=>{ posonlyargs:=[],args:=[],vararg:=none,kwonlyargs:=[],kw_defaults:=[],kwarg:=none,defaults:=[] }
def defBody (s:Stmt):List Stmt:=match s with
  | .FunctionDef _ _ b _ _ _ _ _ _ _=>b
  | _=>[]
def defScope (s:Stmt):Scope:=match s with
  | .FunctionDef _ _ _ _ _ _ sc _ _ _=>sc
  | _=>{ kind:=.function,names:=[],isGenerator:=false,isCoroutine:=false }
abbrev CX0:CXT:=fun _ _ _ _ _ _=>False
abbrev E0:XK:=fun _ _ _=>False
theorem pass0:Passes CX0 X E0:=fun _ _ _ _ _ _ _ h=>h.elim
structure Fun (K:PySem.W.Frag) (x qual:Str) (st:Stmt) (f:Addr) (fd:FuncData):Prop where
  ex:∃(oc:Value) (od:Option Addr) (kV doc pm:Value) (an:Option Addr) (cdv ct:Value) (osl:Array (Option Value)),
    fd=PySem.W.fnOf x qual (defArgs st) (defBody st) (defScope st) .none kV doc pm an cdv ct∧K.lookup f=some ⟨oc,od,.func fd,osl⟩∧PySem.W.codeIn K cdv qual=true
  kp:PySem.W.keepIn K (.ref f)=true
section
variable {P:Program}{w:World}{K:PySem.W.Frag}{mg:Str→Option Value}{base:Heap}
theorem Fun.ok {x qual:Str}{st:Stmt}{f:Addr}{fd:FuncData}{N ps:List Str}{k:Nat}{sp:Sp} (F:Fun K x qual st f fd) (S:FnScope N ps (defScope st)) (len:∀vs H Q E,sp vs H Q E→vs.length=ps.length)
    (hbody:∀(cdv:Value) (A:Around) (outer:List Env) (s:Shared) (H:Hp) (vs:List V) (Q:VK) (E:XK),Room k (A.deeper (envOfC qual (defScope st) s.heap.objs.size f cdv))→sp vs H Q E →
      ∃t,PSs (cxOf CX0 P w K mg base N qual (defScope st) f cdv A outer s H E).nox (defBody st) t∧t { nx:=fun _ H'=>Q .non H',rt:=Q } (start N vs) H):FnOk P w K mg base CX0 (k+1) f fd ps sp:=by
  obtain⟨oc,od,kV,doc,pm,an,cdv,ct,osl,rfl,lk,hcd⟩:=F.ex
  refine fn_of lk hcd S len fun A outer s H vs Q E hr hsp=>?_
  obtain⟨t,h,q⟩:=hbody cdv A outer s H vs Q E hr hsp
  exact⟨t,h.nox,q⟩
theorem fun_mk {x qual:Str}{st:Stmt}{f:Addr}{oc:Value}{od an:Option Addr}{osl:Array (Option Value)}{kV doc pm cdv ct:Value} (l:K.lookup f=some ⟨oc,od,.func (PySem.W.fnOf x qual (defArgs st) (defBody st) (defScope st) .none kV doc pm an cdv ct),osl⟩)
    (c:PySem.W.codeIn K cdv qual=true) (k:PySem.W.keepIn K (.ref f)=true):Fun K x qual st f (PySem.W.fnOf x qual (defArgs st) (defBody st) (defScope st) .none kV doc pm an cdv ct):=⟨⟨oc,od,kV,doc,pm,an,cdv,ct,osl,rfl,l,c⟩,k⟩
end
theorem small1000 (h:n≤1000):n<sizeLine:=Nat.lt_of_le_of_lt h (by decide)
section
variable {X:Cx}
theorem pv (i:Nat){x:Str}{pos:Pos} (hN:X.N[i]?=some x:=by rfl) (hv:Vis X.env.scope x:=by first | exact Or.inl rfl | exact Or.inr (Or.inl rfl) | exact Or.inr (Or.inr rfl)) (hd:(x == ("__debug__":Str))=false:=by decide)
    (hcd:(x == ("__classdict__":Str))=false:=by decide):PE X (.Name x pos) (tVar i):=pe_var hN hv hd hcd
end
theorem iteF {A B:Prop} (h:B):if false=true then A else B:=by
  rw[if_neg Bool.false_ne_true]
  exact h
theorem iteT {A B:Prop} (h:A):if true=true then A else B:=by
  rw[if_pos rfl]
  exact h
theorem ite2 {c A B:Prop} [Decidable c] (h1:c→A) (h2:¬c→B):if c then A else B:=by
  by_cases h:c
  · rw[if_pos h]
    exact h1 h
  · rw[if_neg h]
    exact h2 h
def Same (H H':Hp):Prop:=∀b o,H b=some o→H' b=some o
theorem Same.refl (H:Hp):Same H H:=fun _ _ h=>h
theorem Same.trans (a:Same H H1) (b:Same H1 H2):Same H H2:=fun c o h=>b c o (a c o h)
theorem Same.free (e:Same H H'){l:Addr} (h:H' l=Option.none):H l=Option.none:=by
  cases q:H l with
  | none=>rfl
  | some o =>
    rw[e l o q] at h
    cases h
theorem Same.seq {K:PySem.W.Frag}{H H':Hp}{a:Addr}{xs:List V} (e:Same H H') (h:SqL K H a xs):SqL K H' a xs:=by
  rcases h with (h | ⟨o,h⟩) | h
  · exact .inl (.inl (e _ _ h))
  · exact .inl (.inr ⟨o,e _ _ h⟩)
  · exact .inr h
end L2
set_option Elab.async false
set_option linter.all false
set_option maxRecDepth 100000
namespace L2
open PySem PySem.Spec PyProof.Rows
def AllLk (cells:List (Str×Addr)):List (Str×Addr)→Prop
  | []=>True
  | p::r=>cells.lookup p.1=some p.2∧AllLk cells r
theorem AllLk.of:∀{cl:List (Str×Addr)},AllLk cells cl→∀x c,cl.lookup x=some c→cells.lookup x=some c
  | [],_,x,c,h=>by cases h
  | (y,d)::r,hl,x,c,h=>by
    rw[List.lookup_cons] at h
    cases hx:x == y with
    | true =>
      rw[hx] at h
      have e:x=y:=by simpa using hx
      subst e
      cases h
      exact hl.1
    | false =>
      rw[hx] at h
      exact AllLk.of hl.2 x c h
def blk (X:Cx) (NB:List Str) (sc:Scope) (cl:List (Str×Addr)) (s₃:Shared) (H₃:Hp) (fp:List Addr):Cx :=
  { X with N:=NB,s₀:=s₃,H₀:=H₃,env:=compEnvC sc cl s₃.heap.objs.size X.env,outer:=X.stack,stack:=X.stack,ex:=fp,fn:=fun _=>false,pn:=[],xe:=fun _ _=>False }
structure Blk (X:Cx) (NB:List Str) (pick:List (Option Nat)) (sc:Scope) (cl:List (Str×Addr)):Prop where
  clos:closureFor sc X.env=pure cl
  kind:sc.kind = .function
  nocell:∀y∈sc.names,y.2≠.cell
  names:∀y∈sc.names,y.2 = .local→sc.names.lookup y.1=some .local
  sub:AllLk X.env.cells cl
  has:∀x,((relabel sc X.env).names.lookup x=some .cell∨(relabel sc X.env).names.lookup x=some .free)→∃c,cl.lookup x=some c
  len:pick.length=NB.length
  got:∀(j i:Nat) (x:Str),pick[j]?=some (some i)→NB[j]?=some x→X.N[i]?=some x∧(X.env.kindOf x=some .cell∨X.env.kindOf x=some .free)∧(relabel sc X.env).names.lookup x=some .cell
def hasB (cl:List (Str×Addr)) (L:List (Str×NameKind)):Bool:=L.all fun p=>!(p.2 == .cell||p.2 == .free)||(cl.lookup p.1).isSome
theorem hasB_of (h:hasB cl L=true) (x:Str) (hx:L.lookup x=some .cell∨L.lookup x=some .free):∃c,cl.lookup x=some c:=by
  have get:∀k,L.lookup x=some k→(k == NameKind.cell||k == NameKind.free)=true→∃c,cl.lookup x=some c:=fun k hk hb=>by
    have z:=List.all_eq_true.mp h (x,k) (PySem.mem_of_lookup hk)
    dsimp only at z
    rw[hb] at z
    exact Option.isSome_iff_exists.mp z
  rcases hx with hx | hx
  · exact get _ hx rfl
  · exact get _ hx rfl
def gotB (N:List Str) (k1 k2:List (Str×NameKind)):List (Option Nat)→List Str→Bool
  | some i::p,x::r=>decide (N[i]?=some x)&&(decide (k1.lookup x=some .cell)||decide (k1.lookup x=some .free))&&decide (k2.lookup x=some .cell)&&gotB N k1 k2 p r
  | none::p,_::r=>gotB N k1 k2 p r
  | [],[]=>true
  | _,_=>false
theorem gotB_len:∀{p:List (Option Nat)}{r:List Str},gotB N k1 k2 p r=true→p.length=r.length
  | [],[],_=>rfl
  | [],_::_,h=>by cases h
  | none::_,[],h=>by cases h
  | some _::_,[],h=>by cases h
  | none::p,_::r,h=>congrArg Nat.succ (gotB_len (p:=p) (r:=r) h)
  | some i::p,x::r,h=>by
    have h':(decide (N[i]?=some x)&&(decide (k1.lookup x=some .cell)||decide (k1.lookup x=some .free))&&decide (k2.lookup x=some .cell)&&gotB N k1 k2 p r)=true:=h
    rw[Bool.and_eq_true] at h'
    exact congrArg Nat.succ (gotB_len h'.2)
theorem gotB_of:∀{p:List (Option Nat)}{r:List Str},gotB N k1 k2 p r=true→∀(j i:Nat) (x:Str),p[j]?=some (some i)→r[j]?=some x →
    N[i]?=some x∧(k1.lookup x=some .cell∨k1.lookup x=some .free)∧k2.lookup x=some .cell
  | [],_,_,j,i,x,h1,_=>by simp at h1
  | none::_,[],h,_,_,_,_,_=>by cases h
  | some _::_,[],h,_,_,_,_,_=>by cases h
  | none::p,_::r,h,j,i,x,h1,h2=>by
    cases j with
    | zero=>simp at h1
    | succ j=>exact gotB_of (p:=p) (r:=r) h j i x (by simpa using h1) (by simpa using h2)
  | some i'::p,x'::r,h,j,i,x,h1,h2=>by
    have h':(decide (N[i']?=some x')&&(decide (k1.lookup x'=some .cell)||decide (k1.lookup x'=some .free))&&decide (k2.lookup x'=some .cell)&&gotB N k1 k2 p r)=true:=h
    rw[Bool.and_eq_true,Bool.and_eq_true,Bool.and_eq_true,Bool.or_eq_true] at h'
    obtain⟨⟨⟨a,b⟩,c⟩,d⟩:=h'
    cases j with
    | zero =>
      simp at h1 h2
      subst h1 h2
      exact⟨of_decide_eq_true a,b.elim (fun z=>.inl (of_decide_eq_true z)) fun z=>.inr (of_decide_eq_true z),of_decide_eq_true c⟩
    | succ j=>exact gotB_of d j i x (by simpa using h1) (by simpa using h2)
theorem blk_mk (clos:closureFor sc X.env=pure cl) (sub:AllLk X.env.cells cl) (kind:sc.kind = .function) (nocell:∀y∈sc.names,y.2≠.cell)
    (names:∀y∈sc.names,y.2 = .local→sc.names.lookup y.1=some .local) (has:hasB cl (relabel sc X.env).names=true) (got:gotB X.N X.env.scope.names (relabel sc X.env).names pick NB=true):Blk X NB pick sc cl :=
  ⟨clos,kind,nocell,names,sub,hasB_of has,gotB_len got,fun j i x h1 h2=>gotB_of got j i x h1 h2⟩
def pickσ (pick:List (Option Nat)) (σ:St):St:=pick.map fun o=>o.bind fun i=>(σ[i]?).join
section
variable {X:Cx}{NB:List Str}{pick:List (Option Nat)}{sc:Scope}{cl:List (Str×Addr)}{pins:List (Addr×Obj)}{σ:St}{H:Hp}{s:Shared}{fp:List Addr}
theorem blk_ok (I:Inv X pins σ H s) (B:Blk X NB pick sc cl) (hf:∀b∈fp,FpOk X pins H b) (hex:∀b∈fp,∃o,s.heap.get? b=some o):(blk X NB sc cl s H fp).Ok:=by
  have nfs:∀b∈fp,b∉frs X.stack:=fun b hb z=>by
    rcases List.mem_cons.mp (I.stkSub b z) with e | e
    · exact(hf b hb).2.1 e
    · exact(hf b hb).2.2.1 e
  refine⟨I.ok.mod,B.kind,I.ok.glob,I.ok.blt,Nat.le_refl _,fun x y c h1 h2=>?_,fun x hx=>B.has x hx,fun x c h _=>(Bool.false_ne_true h).elim,I.ok.hd,I.ok.frames,.inl rfl,fun b hb=>⟨?_,fun x c h e=>?_⟩,I.bs,Nat.le_trans I.ok.bsz I.sz,fun b o e hb=>?_,nfs,I.stack,I.stkFree⟩
  · exact I.ok.inj x y c (B.sub.of x c h1) (B.sub.of y c h2)
  · obtain⟨o,ho⟩:=hex b hb
    exact Nat.ne_of_lt (Heap.lt_size ho)
  · exact(hf b hb).2.2.2.2.1 x c (B.sub.of x c h) e
  · rcases(hf b hb).2.2.2.1 with z | z
    · exact I.ok.noex b o e z
    · exact absurd (Nat.lt_of_lt_of_le (Heap.lt_size (I.ok.bs b o e).1) z) (Nat.lt_irrefl _)
theorem blk_start (I:Inv X pins σ H s) (B:Blk X NB pick sc cl) (hf:∀b∈fp,FpOk X pins H b) (hex:∀b∈fp,∃o,s.heap.get? b=some o)
    (hn:h'.Ns s.heap.objs.size (fun _=>none)) (hs:∀b o,s.heap.get? b=some o→h'.get? b=some o) (t:Nat):Inv (blk X NB sc cl s H fp) [] (pickσ pick σ) H { s with heap:=h',toks:=t }:=by
  refine⟨blk_ok I B hf hex,rfl,I.bare,Un.kept hs,⟨_,hn,fun j x v h1 h2 h3=>?_⟩,fun x c e=>?_,I.hok.fresh (Nat.le_refl _),fun x c e=>I.freeC x c (B.sub.of x c e),fun p hp=>absurd (show p∈([]:List (Addr×Obj)) from hp) (by simp),I.hok.kept hs,?_⟩
  · have h2':(pick.map fun o=>o.bind fun i=>(σ[i]?).join)[j]?=some (some v):=h2
    rw[List.getElem?_map] at h2'
    cases hp:pick[j]? with
    | none=>rw[hp] at h2';cases h2'
    | some o =>
      rw[hp] at h2'
      cases o with
      | none=>cases h2'
      | some i =>
        have h2'':(σ[i]?).join=some v:=Option.some.inj h2'
        obtain⟨g1,g2,g3⟩:=B.got j i x hp h1
        have hσ:σ[i]?=some (some v):=by
          cases hq:σ[i]? with
          | none=>rw[hq] at h2'';cases h2''
          | some z=>rw[hq] at h2'';have e:z=some v:=h2'';rw[e]
        obtain⟨m,_,hl⟩:=I.loc
        obtain⟨u,r,L⟩:=hl i x v g1 hσ (.inr g2)
        refine⟨u,r,?_⟩
        rcases L with ⟨k,_⟩ | ⟨_,c,hc,⟨o,ho,hd⟩⟩
        · rcases g2 with g2 | g2 <;> rw[k] at g2 <;> cases g2
        · obtain⟨c',hc'⟩:=B.has x (.inl g3)
          have e:c'=c:=Option.some.inj ((B.sub.of x c' hc').symm.trans hc)
          subst e
          exact .inr ⟨.inl g3,c',hc',o,hs _ _ ho,hd⟩
  · obtain⟨v,o,ho,hd⟩:=I.cell x c (B.sub.of x c e)
    exact⟨v,o,hs _ _ ho,hd⟩
  · show(pickσ pick σ).length=NB.length
    unfold pickσ
    rw[List.length_map]
    exact B.len
theorem blk_end (I:Inv X pins σ H s) (hf:∀b∈fp,FpOk X pins H b) (J:Inv (blk X NB sc cl s H fp) [] σ' H' s'):Inv X pins σ H' s':=by
  refine I.call' (ch:=fp) J.os J.base J.hok J.bare fun b hb=>?_
  obtain⟨_,f1,_,f3,f4,f5⟩:=hf b hb
  exact⟨f3,f1,f4,f5⟩
end
def tComp (wi:TI) (pick:List (Option Nat)) (g:TG) (c:TT) (te:TE):St→Hp→(Addr→Hp→Prop)→Prop:=fun σ H Q =>
  wi σ H fun J H1=>∀D,H1 D=none→∃W:Nat→Nat→St→Hp→Prop,(∃m,W 0 m (pickσ pick σ) (upd H1 D (.lst [])))∧∀i m σ1 H2,W i m σ1 H2 →
    (J.stop i H2∧Q D H2)∨(J.go i H2∧∃N:St→Hp→Prop,(∀σ' H',N σ' H'→∃m',m'<m∧W (i+1) m' σ' H') ∧
      ∀x H',J.yld i H2 x H'→g x σ1 H' fun σ2 H3=>c σ2 H3 fun b H4=>if b=true then te σ2 H4 fun y H5=>∃xs,H5 D=some (.lst xs)∧xs.length<sizeLine∧N σ2 (upd H5 D (.lst (xs++[y]))) else N σ2 H4)
section
variable {prog:Program}{w:World}{A:Around}{R:Result→Shared→Prop}{s:Shared}
theorem compLoop_any (W:Nat→Shared→Prop)
    (turn:∀n s,W n s→wpAny (model prog w) A (pyNext it) (fun r s₁=>match r with
      | none=>R (.ok .next) s₁
      | some v=>wpAny (model prog w) A (letOwnedTupleGo target it v) (fun _ s₀=>wpAny (model prog w) A (assign target env v) (fun _ s₂ =>
          wpAny (model prog w) A (forIn ifs true fun c r=>if r=true then do let ok ← isTrue c env (eval c env);pure (ForInStep.yield ok) else pure (ForInStep.yield r)) (fun ok s₃ =>
            if ok=true then wpAny (model prog w) A (eval elt env) (fun x s₄ =>
              wpAny (model prog w) A (call (.builtin "list.append") [acc,x]) (fun _ s₅=>∃m,m<n∧W m s₅) (fun _ _=>False) s₄) (fun _ _=>False) s₃
            else ∃m,m<n∧W m s₃) (fun _ _=>False) s₂) (fun _ _=>False) s₀) (fun _ _=>False) s₁) (fun _ _=>False) s)
    (n:Nat) (h:W n s) :
    codeAny (model prog w) A (.compLoop (.ListComp elt [⟨target,iter,ifs,0⟩] scope pos) 0 it acc env) R s:=by
  refine codeAny_loop rfl W (fun n s hI=>?_) n h
  show wpAny _ A ((compTurn (.ListComp elt [⟨target,iter,ifs,0⟩] scope pos) 0 it acc env).onRaise (fun x=>do noteFrame x env;theTreesLotGoes x)) _ _ s
  refine wpAny_noted (wpAny_noRaise ?_)
  rw[compTurn_list]
  refine wpAny_bind (wpAny_standAt (wpAny_bind (thn (turn n s hI) fun r s₁ h₁=>?_)))
  cases r with
  | none=>exact wpAny_pure h₁
  | some v =>
    refine wpAny_bind (thn h₁ fun _ s₀ h₀=>wpAny_bind (thn h₀ fun _ s₂ h₂=>wpAny_bind (thn h₂ fun ok s₃ h₃=>?_)))
    cases ok with
    | false=>exact wpAny_pure ⟨rfl,h₃⟩
    | true=>exact wpAny_bind (wpAny_bind (thn h₃ fun x s₄ h₄=>wpAny_bind (thn h₄ fun _ s₅ h₅=>wpAny_pure (wpAny_pure ⟨rfl,h₅⟩))))
end
def PIfs (X:Cx) (ifs:List Expr) (c:TT):Prop :=
  ∀(pins:List (Addr×Obj)) (s:Shared) (σ:St) (H:Hp) (Q:Bool→Hp→Prop),Inv X pins σ H s→c σ H Q →
    wpAny (model X.prog X.w) X.A (forIn ifs true fun c r=>if r=true then do let ok ← isTrue c X.env (eval c X.env);pure (ForInStep.yield ok) else pure (ForInStep.yield r)) (TP X pins σ Q) X.xe s
def tYes:TT:=fun _ H Q=>Q true H
theorem pif_nil:PIfs X [] tYes:=fun pins s σ H Q I h=>wpAny_pure ⟨H,I,h⟩
theorem pif_one (hc:PT X e c):PIfs X [e] c:=fun pins s σ H Q I h=>wpAny_tests_one (hc pins s σ H Q I h)
section
variable {X:Cx}{NB:List Str}{pick:List (Option Nat)}{sc:Scope}{cl:List (Str×Addr)}{elt target iter:Expr}{ifs:List Expr}{pos:Pos}{wi:TI}{g:TG}{c:TT}{te:TE}
theorem comp_run (B:Blk X NB pick sc cl) (hc:X.calm=true) (hi:PI X target iter wi)
    (hg:∀s₃ H₃ fp,PG (blk X NB sc cl s₃ H₃ fp) target g) (ht:∀s₃ H₃ fp,PIfs (blk X NB sc cl s₃ H₃ fp) ifs c) (he:∀s₃ H₃ fp,PE (blk X NB sc cl s₃ H₃ fp) elt te)
    (hs:∀x,foldedSetIterable iter X.env x=pure x) (I:Inv X pins σ H s) (h:tComp wi pick g c te σ H Q)
    (fin:∀(D C:Addr) (s':Shared) (H':Hp),Inv X pins σ H' s'→Q D H'→H' C=none→C≠X.env.locals→X.s₀.heap.objs.size≤C→(∀x a,X.env.cells.lookup x=some a→a≠C)→(∀p∈X.pn++pins,p.1≠C)→(∃m,s'.heap.Ns C m) →
      compPost (model X.prog X.w) X.A X.xe use QV (.ref D) C (.ok .next) s') :
    wpAny (model X.prog X.w) X.A (comprehension (.ListComp elt [⟨target,iter,ifs,0⟩] sc pos) sc X.env (firstIterPos [⟨target,iter,ifs,0⟩] pos) (newList []) false (eval iter X.env) use) QV X.xe s:=by
  refine wpAny_comprehension_free rfl hs B.clos B.kind B.names (thn (hi pins s σ H _ I h) fun v s1 h1=>thn h1 fun itv s2 h2=>?_)
  obtain⟨it,fp,tn,J,H2,e,I2,T,st2,f2,h2⟩:=h2
  subst e
  refine wpAny_newObj_type ?_
  have I3:Inv X pins σ (upd H2 s2.heap.objs.size (.lst [])) { s2 with heap:=s2.heap.push { cls:=.type "list",dict:=none,data:=.seq ([]:List Value).toArray } } :=
    I2.laid (t':=s2.toks) (fun b u e=>Heap.get?_push_of_some _ e) (Nat.le_refl _) ⟨Nat.zero_le _,[],0,.nil,Heap.get?_push_size _ rfl⟩
  have hf:H2 s2.heap.objs.size=none:=I2.hok.fresh (Nat.le_refl _)
  have lt:∀b∈fp,b≠s2.heap.objs.size:=fun b hb=>by
    obtain⟨o,ho,_⟩:=T.obj _ _ st2 b hb
    exact Nat.ne_of_lt (Heap.lt_size ho)
  have f3:∀b∈fp,FpOk X pins (upd H2 s2.heap.objs.size (.lst [])) b:=fun b hb=>⟨by rw[upd_ne (lt b hb)];exact(f2 b hb).1,(f2 b hb).2⟩
  generalize hs3:({ s2 with heap:=s2.heap.push { cls:=.type "list",dict:=none,data:=.seq ([]:List Value).toArray } }:Shared)=s3 at I3⊢
  have kp3:∀b o,s2.heap.get? b=some o→s3.heap.get? b=some o:=fun b o e=>by
    rw[← hs3]
    exact Heap.get?_push_of_some _ e
  have hex:∀b∈fp,∃o,s3.heap.get? b=some o:=fun b hb=>by
    obtain⟨o,ho,_⟩:=T.obj _ _ st2 b hb
    exact⟨o,kp3 b o ho⟩
  have st3:tn 0 s3.heap:=T.keep _ _ _ st2 fun b _ o e=>kp3 b o e
  obtain⟨W,⟨m0,w0⟩,turn⟩:=h2 _ hf
  refine wpAny_newFunctionEnv B.nocell (by intro y hy;simp at hy) (fun h₁ hns₁ hsb₁=>?_) B.kind
  have kp4:∀b o,s3.heap.get? b=some o→h₁.get? b=some o:=fun b o e=>(hsb₁.2 b (Nat.ne_of_lt (Heap.lt_size e))).trans (Heap.get?_push_of_some _ e)
  have J4:=blk_start I3 B f3 hex hns₁ kp4 (s3.toks+([]:List (Str×Value)).length)
  have st4:tn 0 h₁:=T.keep _ _ _ st3 fun b _ o e=>kp4 b o e
  have stat:∀{H':Hp},(∀b∈fp,H' b=none)→∀b∈fp,FpOk (blk X NB sc cl s3 (upd H2 s2.heap.objs.size (.lst [])) fp) [] H' b:=fun {H'} hn b hb=>by
    obtain⟨o,ho⟩:=hex b hb
    refine⟨hn b hb,Nat.ne_of_lt (Heap.lt_size ho),fun z=>?_,.inl hb,fun x a e=>(f2 b hb).2.2.2.2.1 x a (B.sub.of x a e),fun p hp=>absurd (show p∈([]:List (Addr×Obj)) from hp) (by simp)⟩
    rcases List.mem_cons.mp (I2.stkSub b z) with e | e
    · exact(f2 b hb).2.1 e
    · exact(f2 b hb).2.2.1 e
  have loop:codeAny (model X.prog X.w) X.A (.compLoop (.ListComp elt [⟨target,iter,ifs,0⟩] sc pos) 0 (.ref it) (.ref s2.heap.objs.size) (blk X NB sc cl s3 (upd H2 s2.heap.objs.size (.lst [])) fp).env)
      (compPost (model X.prog X.w) X.A X.xe use QV (.ref s2.heap.objs.size) s3.heap.objs.size) { s3 with heap:=h₁,toks:=s3.toks+([]:List (Str×Value)).length }:=by
    refine compLoop_any (fun n s'=>∃i σ' H',Inv (blk X NB sc cl s3 (upd H2 s2.heap.objs.size (.lst [])) fp) [] σ' H' s'∧tn i s'.heap∧(∀b∈fp,H' b=none)∧W i n σ' H') ?_ m0 ⟨0,_,_,J4,st4,fun b hb=>(f3 b hb).1,w0⟩
    rintro n s5 ⟨i,σ5,H5,I5,st5,fr5,w5⟩
    rcases turn i n σ5 H5 w5 with ⟨stop,qn⟩ | ⟨go,N,hN,step⟩
    · refine thn (T.done (blk X NB sc cl s3 (upd H2 s2.heap.objs.size (.lst [])) fp) rfl rfl rfl hc i [] s5 σ5 H5 _ I5 (stat fr5) st5 stop) fun r s6 ⟨hr,I6⟩=>?_
      subst hr
      refine fin s2.heap.objs.size s3.heap.objs.size s6 H5 (blk_end I3 f3 I6) qn I6.free (Nat.ne_of_lt I3.lt).symm I3.sz (fun x a e=>?_) (fun p hp=>?_) ?_
      · obtain⟨v,o,ho,_⟩:=I3.cell x a e
        exact Nat.ne_of_lt (Heap.lt_size ho)
      · exact Nat.ne_of_lt (Heap.lt_size (I3.pin p hp).1)
      · obtain⟨m,hn,_⟩:=I6.loc
        exact⟨m,hn⟩
    · refine thn (T.item (blk X NB sc cl s3 (upd H2 s2.heap.objs.size (.lst [])) fp) rfl rfl rfl hc i [] s5 σ5 H5 _ I5 (stat fr5) st5 go) fun r s6 ⟨u,hr,h6⟩=>?_
      subst hr
      refine thn h6 fun _ s7 ⟨x,H7,I7,r7,y7,st7,fr7⟩=>?_
      have I7':=I7.pinned (stat fr7) (T.obj _ _ st7)
      have again:∀{s9:Shared}{σ9:St}{H9:Hp},Inv (blk X NB sc cl s3 (upd H2 s2.heap.objs.size (.lst [])) fp) ([]++pinsAt fp s7.heap) σ9 H9 s9→N σ9 H9 →
          ∃m,m<n∧∃i σ' H',Inv (blk X NB sc cl s3 (upd H2 s2.heap.objs.size (.lst [])) fp) [] σ' H' s9∧tn i s9.heap∧(∀b∈fp,H' b=none)∧W i m σ' H':=fun {s9 σ9 H9} I9 n9=>by
        obtain⟨m',hm,w9⟩:=hN σ9 H9 n9
        refine⟨m',hm,i+1,σ9,H9,I9.unpinned,T.keep _ _ _ st7 fun b hb o e=>(I9.pin (b,o) (List.mem_append_right _ (List.mem_append_right _ (mem_pinsAt hb e)))).1,fun b hb=>?_,w9⟩
        obtain⟨o,e,d⟩:=T.obj _ _ st7 b hb
        exact(I9.pin (b,o) (List.mem_append_right _ (List.mem_append_right _ (mem_pinsAt hb e)))).2.1
      refine thn (hg _ _ _ _ s7 σ5 H7 x u _ I7' r7 (step x H7 y7)) fun _ s8 ⟨σ8,H8,I8,q8⟩=>?_
      refine thn (ht _ _ _ _ s8 σ8 H8 _ I8 q8) fun b s9 ⟨H9,I9,q9⟩=>?_
      cases b with
      | false =>
        rw[if_neg Bool.false_ne_true]
        exact again I9 (by rw[if_neg Bool.false_ne_true] at q9;exact q9)
      | true =>
        rw[if_pos rfl] at q9⊢
        refine thn (he _ _ _ _ s9 σ8 H9 _ I9 q9) fun y s10 ⟨vy,H10,I10,r10,xs,hD,hl,q10⟩=>?_
        refine thn (mt_append _ s10 σ8 H10 (.ref s2.heap.objs.size) [vy] (.ref s2.heap.objs.size) [y] (fun _ H'=>N σ8 H') I10 rfl (.cons r10 .nil) ⟨_,xs,vy,rfl,rfl,hD,hl,q10⟩) fun _ s11 ⟨_,H11,I11,_,q11⟩=>?_
        exact again I11 q11
  refine codeAny_compStart_list loop (T.self _ 0 _ _ _ st4 loop)
theorem pe_comp (B:Blk X NB pick sc cl) (hc:X.calm=true) (hi:PI X target iter wi)
    (hg:∀s₃ H₃ fp,PG (blk X NB sc cl s₃ H₃ fp) target g) (ht:∀s₃ H₃ fp,PIfs (blk X NB sc cl s₃ H₃ fp) ifs c) (he:∀s₃ H₃ fp,PE (blk X NB sc cl s₃ H₃ fp) elt te)
    (hs:∀x,foldedSetIterable iter X.env x=pure x:=by intro _;rfl):PE X (.ListComp elt [⟨target,iter,ifs,0⟩] sc pos) (fun σ H Q=>tComp wi pick g c te σ H fun D H'=>Q (.ref D) H'):=by
  intro pins s σ H Q I h
  rw[eval_ListComp]
  refine comp_run (use:=none) (QV:=EP X pins σ Q) B hc hi hg ht he hs I h fun D C s' H' I' q c0 c1 c2 c3 c4 hn=>?_
  obtain⟨m,hm⟩:=hn
  exact⟨m,hm,fun hh hsb=>⟨.ref D,H',I'.turned (t':=s'.toks) (fun b o hb e=>(hsb.2 b hb).trans e) c0 c1 (.inr c2) c3 c4,rfl,q⟩⟩
theorem ps_setC (hN:X.N.Nodup) (hx1:X.N[i]?=some x) (hx2:Loc X.env.scope x)
    (hsw:swapsWith (.ListComp elt [⟨target,iter,ifs,0⟩] sc pos) (some (.Name x pos')) spos.line X.env=pure true) (B:Blk X NB pick sc cl) (hc:X.calm=true) (hi:PI X target iter wi)
    (hg:∀s₃ H₃ fp,PG (blk X NB sc cl s₃ H₃ fp) target g) (ht:∀s₃ H₃ fp,PIfs (blk X NB sc cl s₃ H₃ fp) ifs c) (he:∀s₃ H₃ fp,PE (blk X NB sc cl s₃ H₃ fp) elt te)
    (hs:∀x,foldedSetIterable iter X.env x=pure x:=by intro _;rfl) (hfn:X.fn x=true∨X.env.scope.names.lookup x=some .local:=by first | exact .inl rfl | exact .inr rfl | assumption) :
    PS X (.Assign [.Name x pos'] (.ListComp elt [⟨target,iter,ifs,0⟩] sc pos) spos) (fun D σ H=>tComp wi pick g c te σ H fun l H'=>D.nx (σ.set i (some (.ref l))) H'):=by
  intro pins s σ H D I h
  rw[exec_Assign_Name_used _ _ _ _ hsw]
  refine wpAny_bind (wpAny_standAt (wpAny_bind ?_))
  show wpAny _ _ (do let _ ← comprehension (.ListComp elt [⟨target,iter,ifs,0⟩] sc pos) sc X.env _ (newList []) false (eval iter X.env) (some (assign (.Name x pos') X.env))) _ _ s
  refine wpAny_bind (thn (comp_run (use:=some (assign (.Name x pos') X.env)) (QV:=fun _ s'=>SP X pins D .next s') B hc hi hg ht he hs I h fun l C s' H' I' q c0 c1 c2 c3 c4 hn=>?_) fun _ s' hq=>wpAny_pure (wpAny_pure hq))
  obtain⟨m,hm⟩:=hn
  show wpAny _ _ (assign (.Name x pos') X.env (.ref l)) _ _ _
  refine wpAny_assign_Name (store_ok2 (v:=.ref l) I' hN hx1 hx2 rfl (fun s'' I'' ⟨a,hsb,ha⟩=>?_) hfn)
  have ne:C≠a:=by
    rcases ha with e | e
    · rw[e];exact c1
    · exact(c3 x a e).symm
  refine⟨m,hm.sameBut hsb ne,fun hh hsb2=>?_⟩
  exact⟨_,H',I''.turned (t':=s''.toks) (fun b o hb e=>(hsb2.2 b hb).trans e) c0 c1 (.inr c2) c3 c4,q⟩
end
end L2
set_option Elab.async false
set_option linter.all false
set_option maxRecDepth 100000
namespace L2
open PySem PySem.Spec PyProof.Rows
def ctxO (o:Obj):Option Value:=match o.data with
  | .fields vs=>vs[2]?
  | _=>none
def DK (h h':Heap):Prop:=∀b o,h.get? b=some o→∃o',h'.get? b=some o'∧o'.dict=o.dict∧ctxO o'=ctxO o
theorem DK.refl (h:Heap):DK h h:=fun b o e=>⟨o,e,rfl,rfl⟩
theorem DK.trans {a b c:Heap} (x:DK a b) (y:DK b c):DK a c:=fun p o e=>by
  obtain⟨o1,e1,d1,c1⟩:=x p o e
  obtain⟨o2,e2,d2,c2⟩:=y p o1 e1
  exact⟨o2,e2,d2.trans d1,c2.trans c1⟩
theorem DK.keeps {h h':Heap} (k:∀b o,h.get? b=some o→h'.get? b=some o):DK h h':=fun b o e=>⟨o,k b o e,rfl,rfl⟩
theorem DK.upd {h:Heap}{a:Addr}{f:Obj→Obj} (k:∀o,(f o).dict=o.dict∧ctxO (f o)=ctxO o∧(f o).isFreed=o.isFreed):DK h (h.update a f):=fun b o e=>by
  by_cases hb:a=b
  · subst hb
    exact⟨f o,Heap.get?_update_self f e ((k o).2.2.trans (Heap.get?_some_iff.mp e).2),(k o).1,(k o).2.1⟩
  · exact⟨o,(Heap.get?_update_other h f hb).trans e,rfl,rfl⟩
def KD {α:Type} (t:Sem α):Prop:=∀(M:Model) (Γ:PySem.Ctx) (Q:α→Pos→Shared→Prop) (E:Value→Pos→Shared→Prop) (p:Pos) (s:Shared),Sem.wp M Γ t Q E p s →
  Sem.wp M Γ t (fun a p' s'=>Q a p' s'∧DK s.heap s'.heap) (fun e p' s'=>E e p' s'∧DK s.heap s'.heap) p s
theorem KD.pure {α:Type} (a:α):KD (Pure.pure a:Sem α):=fun M Γ Q E p s h=>by
  rw[Sem.wp_pure'] at h⊢
  exact⟨h,.refl _⟩
theorem KD.bind {α β:Type}{m:Sem α}{f:α→Sem β} (x:KD m) (y:∀a,KD (f a)):KD (m >>= f):=fun M Γ Q E p s h=>by
  rw[Sem.wp_bind'] at h⊢
  refine Sem.wp_mono M Γ m (fun a p1 s1 ⟨q,d⟩=>?_) (fun e p1 s1 z=>z) p s (x M Γ _ _ p s h)
  exact Sem.wp_mono M Γ (f a) (fun b p2 s2 ⟨q2,d2⟩=>⟨q2,d.trans d2⟩) (fun e p2 s2 ⟨q2,d2⟩=>⟨q2,d.trans d2⟩) p1 s1 (y a M Γ _ _ p1 s1 q)
theorem KD.un {α:Type} (w:String):KD (unsupported w:Sem α):=fun M Γ Q E p s h=>False.elim h
theorem KD.ite {α:Type}{c:Prop} [Decidable c] {a b:Sem α} (x:KD a) (y:KD b):KD (if c then a else b):=by
  split
  · exact x
  · exact y
theorem KD.stack:KD PySem.stack:=fun M Γ Q E p s h=>⟨h,.refl _⟩
theorem KD.load (a:Addr):KD (PySem.load a):=fun M Γ Q E p s h=>by
  obtain⟨o,ho,h⟩:=h
  exact⟨o,ho,h,.refl _⟩
theorem KD.update (a:Addr){f:Obj→Obj} (k:∀o,(f o).dict=o.dict∧ctxO (f o)=ctxO o∧(f o).isFreed=o.isFreed):KD (PySem.update a f):=fun M Γ Q E p s h=>by
  obtain⟨ho,h⟩:=h
  exact⟨ho,h,.upd k⟩
theorem KD.fieldsOf (v:Value):KD (PySem.fieldsOf v):=by
  unfold PySem.fieldsOf
  split
  · refine(KD.load _).bind fun o=>?_
    split
    · exact .pure _
    · exact .un _
  · exact .un _
theorem KD.field (v:Value) (i:Nat):KD (PySem.field v i):=by
  unfold PySem.field
  refine(KD.fieldsOf v).bind fun o=>?_
  split
  · exact .pure _
  · exact .un _
theorem mapF_k (i:Nat) (hi:i≠2) (x:Value) (o:Obj):(Obj.mapFields (·.setIfInBounds i x) o).dict=o.dict∧ctxO (Obj.mapFields (·.setIfInBounds i x) o)=ctxO o∧(Obj.mapFields (·.setIfInBounds i x) o).isFreed=o.isFreed:=by
  obtain⟨c,d,dt,sl⟩:=o
  cases dt <;> first | exact⟨rfl,rfl,rfl⟩ | skip
  rename_i vs
  refine⟨rfl,?_,rfl⟩
  show(vs.setIfInBounds i x)[2]?=vs[2]?
  exact Array.getElem?_setIfInBounds_ne hi
theorem KD.setField (v:Value) (i:Nat) (hi:i≠2) (x:Value):KD (PySem.setField v i x):=by
  unfold PySem.setField
  split
  · unfold updateField
    refine(KD.load _).bind fun o=>?_
    split
    · refine .ite (.update _ (mapF_k i hi x)) (.un _)
    · exact .un _
  · exact .un _
theorem KD.alloc (o:Obj):KD (PySem.alloc o):=fun M Γ Q E p s h=>⟨h,.keeps fun b u e=>Heap.get?_push_of_some _ e⟩
theorem KD.setFlight (v:Value) (f:Option Addr):KD (PySem.setFlight v f):=by
  unfold PySem.setFlight
  refine(KD.field _ _).bind fun tb=>.ite (.setField _ _ (by decide) _) (.pure _)
theorem KD.ready:∀l:List Env,KD (readyFrames l)
  | []=>.pure _
  | env::outer=>by
    unfold readyFrames
    split
    · rename_i f _
      refine(KD.load f).bind fun o=>.ite (.pure _) ?_
      refine KD.bind ?_ fun i=>KD.bind ?_ fun b=>(KD.update f ?_).bind fun _=>KD.ready outer
      · unfold behindIsImport
        refine .ite (.pure _) (.ite (.pure _) ((KD.field _ _).bind fun _=>.pure _))
      · unfold keptBack
        split
        · refine .ite (.pure _) (KD.bind ?_ fun _=>.pure _)
          unfold underTheClaimsCaller
          exact KD.stack.bind fun _=>.pure _
        · exact .pure _
      · intro o
        obtain⟨c,d,dt,sl⟩:=o
        cases dt <;> exact⟨rfl,rfl,rfl⟩
    · exact .un _
theorem KD.frameOf (env:Env):KD (PySem.frameOf env):=by
  unfold PySem.frameOf
  refine KD.bind ?_ fun l=>KD.bind ?_ fun r=>?_
  · unfold frameEnvs
    exact KD.stack.bind fun _=>.pure _
  · unfold frameObject
    split
    · exact .pure _
    · exact(KD.ready _).bind fun _=>.pure _
  · split
    · exact .pure _
    · exact .un _
theorem KD.place (f:Addr) (b:Bool):KD (entryPlaceOf f b):=by
  unfold entryPlaceOf
  refine KD.stack.bind fun _=>?_
  split
  · exact .pure _
  · exact .pure _
theorem KD.entry (a b c d e:Value) (l:List Value):KD (EntryCells.newEntry a b c d e l):=by
  unfold EntryCells.newEntry newFields newObj
  dsimp only
  have k:∀o:Data,KD (newObjAsIs (.type "traceback") o):=fun o=>by
    unfold newObjAsIs
    exact(KD.alloc _).bind fun _=>.pure _
  generalize ([a,b,c,d,e]++if l.isEmpty=true then List.replicate 6 Value.none else l)=r
  split
  · exact(KD.un _).bind fun _=>k _
  · exact k _
theorem KD.put (e hd:Value) (env:Env) (f:Addr) (b:Bool):KD (do PySem.setField e 1 (← EntryCells.newEntry hd (← PySem.frameOf env) .none (rawInt f) .none (← entryPlaceOf f b))) :=
  (KD.frameOf _).bind fun _=>(KD.place _ _).bind fun _=>(KD.entry _ _ _ _ _ _).bind fun _=>.setField _ _ (by decide) _
theorem KD.note (e:Value) (env:Env):KD (noteFrame e env):=by
  unfold noteFrame
  cases env.frame with
  | none=>exact .un _
  | some f =>
    refine(KD.field _ _).bind fun hd=>?_
    split
    · refine(KD.field _ _).bind fun _=>?_
      split
      · exact .pure _
      · exact(KD.setField _ _ (by decide) _).bind fun _=>KD.put e hd env f _
    · exact KD.put e hd env f _
theorem KD.leaving (e:Value) (env:Env):KD (PySem.leaving env e):=by
  unfold PySem.leaving
  exact(KD.note _ _).bind fun _=>.setFlight _ _
section
variable {α:Type}{M:Model}{A:Around}{E:Value→Shared→Prop}{s:Shared}{t:Sem α}{Q:α→Shared→Prop}
theorem KD.any (k:KD t) (h:wpAny M A t Q E s):wpAny M A t (fun a s'=>Q a s'∧DK s.heap s'.heap) (fun e s'=>E e s'∧DK s.heap s'.heap) s :=
  fun Γ p hΓ=>k M Γ _ _ p s (h Γ p hΓ)
end
end L2
set_option Elab.async false
set_option linter.all false
set_option maxRecDepth 100000
namespace L2
open PySem PySem.Spec PyProof.Rows
theorem ObjOk.there {P:Program}{w:World}{H:Hp}{h:Heap}{a:Addr}{o:HO} (x:ObjOk P w H h a o):∃ob,h.get? a=some ob:=by
  induction o with
  | lst xs=>obtain⟨_,_,_,_,e⟩:=x;exact⟨_,e⟩
  | tup xs=>obtain⟨_,_,_,ob,e,_⟩:=x;exact⟨ob,e⟩
  | dK kvs=>obtain⟨_,_,_,_,ob,_,_,e,_⟩:=x;exact⟨ob,e⟩
  | dT kvs=>obtain⟨_,_,_,_,ob,_,_,e,_⟩:=x;exact⟨ob,e⟩
  | set S n=>obtain⟨ob,_,_,_,e,_⟩:=x;exact⟨ob,e⟩
  | ins C dx fs=>obtain⟨_,_,_,e,_⟩:=x;exact⟨_,e⟩
  | own y=>exact x
  | xd fs=>obtain⟨_,⟨ob,_,_,e,_⟩,_⟩:=x;exact⟨ob,e⟩
  | rng lo hi=>obtain⟨_,_,_,e⟩:=x;exact⟨_,e⟩
  | frz ob u ih=>exact⟨ob,x.1⟩
  | tbl ps=>exact⟨_,x⟩
  | met f y=>exact⟨_,x⟩
  | ext φ=>exact x.2.1
structure Fly (P:Program) (w:World) (outer:List Env) (H:Hp) (s:Shared) (e C:Addr) (H':Hp) (s':Shared):Prop where
  os:s'.os=s.os
  bare:AllBare s'.gens
  ex:∃(a0:Value) (B:Heap),Heap.FlyingW B outer e (.ref C) a0 s'.heap∧HOk P w H' B∧(∀b o,s.heap.get? b=some o→b∉frs outer→∃o',B.get? b=some o') ∧
    ∀b o,s.heap.get? b=some o→H b=none→b∉frs outer→B.get? b=some o
  slot:∀b o,s.heap.get? b=some o→H b=none→b∈frs outer→∃sl,s'.heap.get? b=some { o with slots:=sl }
  free:∀b o,s.heap.get? b=some o→H b=none→H' b=none
  tups:∀b xs,H b=some (.tup xs)→H' b=some (.tup xs)
  frzs:∀b o u,H b=some (.frz o u)→H' b=some (.frz o u)
  tbls:∀b ps,H b=some (.tbl ps)→∃more,H' b=some (.tbl (ps++more))
def CN (h:Heap) (e:Addr):Prop:=∃oe,h.get? e=some oe∧ctxO oe=some .none
theorem CN.dk {h h':Heap}{e:Addr} (x:CN h e) (d:DK h h'):CN h' e:=by
  obtain⟨oe,he,hc⟩:=x
  obtain⟨o',h1,_,h2⟩:=d e oe he
  exact⟨o',h1,h2.trans hc⟩
def CX1 (P:Program) (w:World):CXT:=fun outer H s E ev s'=>∃(e C:Addr) (H':Hp),ev = .ref e∧Fly P w outer H s e C H' s'∧CN s'.heap e∧E (.ref C) none H'
section
variable {X:Cx}{pins:List (Addr×Obj)}{σ:St}{H H':Hp}{s s':Shared}{e C:Addr}
theorem Fly.un (F:Fly X.prog X.w X.stack H s e C H' s') (I:Inv X pins σ H s):Un (frs X.stack) [] H H' s.heap s'.heap:=by
  obtain⟨a0,B,fl,hok,th,kp⟩:=F.ex
  refine⟨fun b o q n h1 _=>fl.1 b o (kp b o q n h1),fun b o q n h1 _=>F.slot b o q n h1,fun b o q n _=>F.free b o q n,fun b o q _=>?_,F.tups,F.frzs,F.tbls⟩
  by_cases hb:b∈frs X.stack
  · obtain⟨sl,z⟩:=F.slot b o q (I.stkFree b hb) hb
    exact⟨_,z⟩
  · obtain⟨o',z⟩:=th b o q hb
    exact⟨o',fl.1 b o' z⟩
theorem Fly.hok {P:Program}{w:World}{outer:List Env} (F:Fly P w outer H s e C H' s'):HOk P w H' s'.heap:=by
  obtain⟨a0,B,fl,hok,_⟩:=F.ex
  exact hok.kept fl.1
theorem Fly.inv (F:Fly X.prog X.w X.stack H s e C H' s') (I:Inv X pins σ H s):Inv X pins σ H' s' :=
  I.call' (ch:=[]) F.os (F.un I) F.hok F.bare fun b hb=>absurd hb (by simp)
theorem Fly.new {P:Program}{w:World}{outer:List Env} (F:Fly P w outer H s e C H' s'):s.heap.get? e=none:=by
  obtain⟨a0,B,⟨f1,f2,f3,oe,vs,T,oT,ts,he,hc,hd,_⟩,hok,th,_⟩:=F.ex
  cases q:s.heap.get? e with
  | none=>rfl
  | some o =>
    by_cases hb:e∈frs outer
    · obtain⟨_,o',ho',hnf⟩:=f3.mem hb
      rw[he] at ho'
      cases ho'
      exact absurd hd (hnf vs)
    · obtain⟨o',z⟩:=th e o q hb
      rw[f2] at z
      cases z
theorem Fly.untracked {P:Program}{w:World}{outer:List Env} (F:Fly P w outer H s e C H' s'):H' e=none:=by
  obtain⟨a0,B,⟨f1,f2,_⟩,hok,_⟩:=F.ex
  cases q:H' e with
  | none=>rfl
  | some o =>
    obtain⟨ob,z⟩:=(hok e o q).there
    rw[f2] at z
    cases z
theorem Fly.obj {P:Program}{w:World}{outer:List Env} (F:Fly P w outer H s e C H' s'):∃oe vs,s'.heap.get? e=some oe∧oe.cls = .ref C∧oe.data = .fields vs:=by
  obtain⟨a0,B,⟨f1,f2,f3,oe,vs,T,oT,ts,he,hc,hd,_⟩,_⟩:=F.ex
  exact⟨oe,vs,he,hc.1,hd⟩
theorem Fly.go {P:Program}{w:World}{outer:List Env} (F:Fly P w outer H s e C H' s') (k:∀a0 B,Heap.FlyingW B outer e (.ref C) a0 s'.heap→(∀h'',Heap.FlyingW B outer e (.ref C) a0 h''→s'.heap.UpToSlots h''→Fly P w outer H s e C H' { s' with heap:=h'' })→Prop)
    (hk:∀a0 B fl g,k a0 B fl g):∃a0 B fl g,k a0 B fl g:=by
  obtain⟨a0,B,fl,hok,th,kp⟩:=F.ex
  refine⟨a0,B,fl,fun h'' fl2 up=>⟨F.os,F.bare,⟨a0,B,fl2,hok,th,kp⟩,fun b o q n hb=>?_,F.free,F.tups,F.frzs,F.tbls⟩,hk _ _ _ _⟩
  obtain⟨sl,z⟩:=F.slot b o q n hb
  obtain⟨_,o',ho',hnf⟩:=fl.2.2.1.mem hb
  rw[z] at ho'
  cases ho'
  obtain⟨sl',z'⟩:=up b _ z hnf
  exact⟨sl',z'⟩
theorem Fly.more {P:Program}{w:World}{outer:List Env} (F:Fly P w outer H s e C H' s'):∃a0 B,Heap.FlyingW B outer e (.ref C) a0 s'.heap ∧
    ∀h'',Heap.FlyingW B outer e (.ref C) a0 h''→s'.heap.UpToSlots h''→Fly P w outer H s e C H' { s' with heap:=h'' }:=by
  obtain⟨a0,B,fl,g,_⟩:=F.go (fun _ _ _ _=>True) fun _ _ _ _=>trivial
  exact⟨a0,B,fl,g⟩
end
structure Own (X:Cx):Prop where
  st:X.stack=X.env::X.outer
  fr:X.env.frame=some X.env.locals
  ex:X.ex=[]
section
variable {X:Cx}{pins:List (Addr×Obj)}{σ:St}{H H':Hp}{s s':Shared}{e C:Addr}{Q:Unit→Shared→Prop}{E:Value→Shared→Prop}{M:Model}
theorem Own.sub (O:Own X){b:Addr} (h:b∈X.fs):b∈frs X.stack:=by
  rw[O.st]
  unfold frs
  rw[List.filterMap_cons,O.fr]
  exact List.mem_cons_of_mem _ h
theorem Own.not (O:Own X) (I:Inv X pins σ H s){b:Addr}{o:Obj} (q:X.s₀.heap.get? b=some o) (h:b∉X.fs):b∉frs X.stack:=fun z=>by
  rcases List.mem_cons.mp (I.stkSub b z) with r | r
  · exact absurd (Nat.lt_of_lt_of_le (Heap.lt_size q) I.ok.above) (by rw[r];exact Nat.lt_irrefl _)
  · exact h r
theorem Own.nex (O:Own X) (b:Addr):b∉X.ex:=by
  rw[O.ex]
  simp
theorem made_leaves {vs:List Value}{h':Heap} (O:Own X) (I:Inv X pins σ H s) (hx:Heap.MadeExcOf s.heap h' e (.ref C) vs)
    (k:∀h'',Fly X.prog X.w X.outer X.H₀ X.s₀ e C H { s with heap:=h'' }→Q () { s with heap:=h'' }):wpAny M X.A (leaving X.env (.ref e)) Q E { s with heap:=h' }:=by
  have hst:=I.stack
  have hfr:=I.ok.frames
  rw[O.st] at hst hfr
  have hin:∀env∈(X.env::X.outer),∀b,env.frame=some b→b∈frs X.stack:=fun env he b hb=>by
    rw[O.st]
    exact List.mem_filterMap.mpr ⟨env,he,hb⟩
  have get:∀{b:Addr}{o:Obj},s.heap.get? b=some o→b∉frs X.stack→(PySem.W.hideAll s.heap (frs X.stack)).get? b=some o:=fun q hb=>PySem.W.hideAll_get _ q hb
  refine wpAny_leaves_madeW (base:=PySem.W.hideAll s.heap (frs X.stack)) (h:=s.heap) (s:={ s with heap:=h' }) hfr O.fr (fun b o q=>PySem.W.of_hideAll _ q) (PySem.W.funFrames_hide hst hin) hx fun h'' t x1 _ _ x4=>k h'' ⟨I.os,I.bare,⟨_,_,x1,fun a o q=>?_,fun b o q hb=>?_,fun b o q n hb=>?_⟩,fun b o q n hb=>?_,fun b o q n=>I.base.free b o q n (O.nex b),I.base.tups,I.base.frzs,I.base.tbls⟩
  · refine(I.hok a o q).stay (fun b u hb z=>get z fun hm=>?_) (fun _ z=>z) fun _ _ z=>z
    have hn:=I.stkFree b hm
    rcases hb with rfl | hb
    · rw[hn] at q;cases q
    · rw[hn] at hb;cases hb
  · obtain⟨o',z⟩:=I.base.there b o q (O.nex b)
    exact⟨o',get z (O.not I q hb)⟩
  · exact get (I.base.keep b o q n hb (O.nex b)) (O.not I q hb)
  · obtain⟨sl,z⟩:=I.base.slot b o q n hb (O.nex b)
    obtain⟨_,o',ho',hnf⟩:=I.ok.funs.mem hb
    rw[q] at ho'
    cases ho'
    obtain⟨sl',z'⟩:=x4 b _ (hx.keeps b _ z) hnf
    exact⟨sl',z'⟩
theorem on_leaves (O:Own X) (I:Inv X pins σ H s) (F:Fly X.prog X.w X.stack H s e C H' s')
    (k:∀h'',Fly X.prog X.w X.outer X.H₀ X.s₀ e C H' { s' with heap:=h'' }→Q () { s' with heap:=h'' }):wpAny M X.A (leaving X.env (.ref e)) Q E s':=by
  obtain⟨a0,B,fl,hok,th,kp⟩:=F.ex
  have hfr:=I.ok.frames
  rw[O.st] at fl hfr
  refine wpAny_leaves_onW hfr O.fr fl fun h'' x1 x2=>k h'' ⟨F.os.trans I.os,F.bare,⟨a0,B,x1,hok,fun b o q hb=>?_,fun b o q n hb=>?_⟩,fun b o q n hb=>?_,fun b o q n=>?_,fun b xs q=>F.tups b xs (I.base.tups b xs q),fun b o u q=>F.frzs b o u (I.base.frzs b o u q),fun b ps q=>?_⟩
  · obtain⟨o',z⟩:=I.base.there b o q (O.nex b)
    exact th b o' z (O.not I q hb)
  · exact kp b o (I.base.keep b o q n hb (O.nex b)) (I.base.free b o q n (O.nex b)) (O.not I q hb)
  · obtain⟨sl,z⟩:=I.base.slot b o q n hb (O.nex b)
    obtain⟨sl',z'⟩:=F.slot b _ z (I.base.free b o q n (O.nex b)) (O.sub hb)
    obtain⟨_,o',ho',hnf⟩:=I.ok.funs.mem hb
    rw[q] at ho'
    cases ho'
    obtain⟨sl2,z2⟩:=x2 b _ z' hnf
    exact⟨sl2,z2⟩
  · obtain⟨o',z⟩:=I.base.there b o q (O.nex b)
    exact F.free b o' z (I.base.free b o q n (O.nex b))
  · obtain⟨m1,e1⟩:=I.base.tbls b ps q
    obtain⟨m2,e2⟩:=F.tbls b _ e1
    exact⟨m1++m2,by rw[e2,Array.append_assoc]⟩
end
abbrev XS:=Value→St→Hp→Prop
structure Pass (X:Cx) (Ex:XS):Prop where
  on:∀(pins:List (Addr×Obj)) (σ:St) (H:Hp) (s:Shared) (e C:Addr) (H':Hp) (s':Shared),Inv X pins σ H s→Fly X.prog X.w X.stack H s e C H' s'→CN s'.heap e→Ex (.ref C) σ H'→X.xe (.ref e) s'
structure Rais (X:Cx) (Ex:XS):Prop extends Pass X Ex where
  nw:∀(pins:List (Addr×Obj)) (σ:St) (H:Hp) (s:Shared) (e C:Addr) (h':Heap) (vs:List Value),Inv X pins σ H s→Heap.MadeExcOf s.heap h' e (.ref C) vs→Ex (.ref C) σ H→X.xe (.ref e) { s with heap:=h' }
  own:PassesOwn (model X.prog X.w) X.A X.env X.xe
theorem made_cn {h h':Heap}{e:Addr}{c:Value}{vs:List Value} (hx:Heap.MadeExcOf h h' e c vs):CN h' e:=by
  obtain⟨t,he,_⟩:=hx.there
  exact⟨_,he,rfl⟩
theorem rais_def {P:Program}{w:World}{K:PySem.W.Frag}{mg:Str→Option Value}{base:Heap}{N:List Str}{qual:Str}{scope:Scope}{f:Addr}{cd:Value}{A:Around}{outer:List Env}{s:Shared}{H:Hp}{E:XK} :
    Rais (cxOf (CX1 P w) P w K mg base N qual scope f cd A outer s H E) (fun c _ H'=>E c none H') where
  on:=fun pins σ H1 s1 e C H' s' I F cn q=>wpAny_mono ((KD.leaving (.ref e) _).any (on_leaves (Q:=fun _ s2=>Fly P w outer H s e C H' s2) (E:=fun _ _=>False) ⟨rfl,rfl,rfl⟩ I F fun h'' F'=>F')) (fun _ s2 ⟨F',d⟩=>⟨e,C,H',rfl,F',cn.dk d,q⟩) fun _ _ z=>z.1.elim
  nw:=fun pins σ H1 s1 e C h' vs I hx q=>wpAny_mono ((KD.leaving (.ref e) _).any (made_leaves (Q:=fun _ s2=>Fly P w outer H s e C H1 s2) (E:=fun _ _=>False) ⟨rfl,rfl,rfl⟩ I hx fun h'' F'=>F')) (fun _ s2 ⟨F',d⟩=>⟨e,C,H1,rfl,F',(made_cn hx).dk d,q⟩) fun _ _ z=>z.1.elim
  own:=PassesOwn.leaving
section
variable {P:Program}{w:World}{K:PySem.W.Frag}{mg:Str→Option Value}{base:Heap}
theorem Fun.ok1 {x qual:Str}{st:Stmt}{f:Addr}{fd:FuncData}{N ps:List Str}{k:Nat}{sp:Sp} (F:Fun K x qual st f fd) (S:FnScope N ps (defScope st)) (len:∀vs H Q E,sp vs H Q E→vs.length=ps.length)
    (hbody:∀(cdv:Value) (A:Around) (outer:List Env) (s:Shared) (H:Hp) (vs:List V) (Q:VK) (E:XK),Room k (A.deeper (envOfC qual (defScope st) s.heap.objs.size f cdv))→sp vs H Q E →
      ∃t,PSs (cxOf (CX1 P w) P w K mg base N qual (defScope st) f cdv A outer s H E) (defBody st) t∧t { nx:=fun _ H'=>Q .non H',rt:=Q } (start N vs) H):FnOk P w K mg base (CX1 P w) (k+1) f fd ps sp:=by
  obtain⟨oc,od,kV,doc,pm,an,cdv,ct,osl,rfl,lk,hcd⟩:=F.ex
  exact fn_of lk hcd S len fun A outer s H vs Q E hr hsp=>hbody cdv A outer s H vs Q E hr hsp
end
def tCallX (sp:Sp) (dvs:List V) (Ex:XS) (t:TA):TE:=fun σ H Q=>t σ H fun vs H1=>sp (vs++dvs) H1 Q fun c _ H'=>Ex c σ H'
section
variable {X:Cx}{Ex:XS}{k:Nat}{f C:Addr}{fd:FuncData}{ps:List Str}{sp:Sp}{dvs:List V}{ds:List Value}{x m:Str}{p pos apos:Pos}{e o:Expr}{es:List Expr}{ta:TE}{t:TA}
theorem run_fnX {pins:List (Addr×Obj)}{σ:St}{H:Hp}{s:Shared}{Q:VK}{us:List Value}{vs:List V} (R:Pass X Ex) (F:FnOk X.prog X.w X.K X.mg X.base (CX1 X.prog X.w) k f fd ps sp) (hr:Room k X.A) (hb:Binds X.K fd ps ds) (hd:Vals dvs ds)
    (I:Inv X pins σ H s) (r:Vals vs us) (h:sp (vs++dvs) H Q fun c _ H'=>Ex c σ H'):wpAny (model X.prog X.w) X.A (call (.ref f) us) (EP X pins σ Q) X.xe s:=by
  have r2:Vals (vs++dvs) (us++ds):=r.append hd
  have hl:(us++ds).length=ps.length:=by rw[← r2.length];exact F.len _ _ _ _ h
  refine wpAny_call (codeAny_mono (F.run X.A X.stack s H ⟨us,[]⟩ (us++ds) (vs++dvs) Q _ hr I.env0 (hb s us I.kIn hl) r2 h) fun r s' hq=>?_)
  cases r with
  | error ev =>
    obtain⟨e,C,H',rfl,Fl,cn,q⟩:=hq
    exact R.on pins σ H s e C H' s' I Fl cn q
  | ok fl =>
    cases fl with
    | ret u=>exact I.after hq
    | next=>exact False.elim hq
    | brk=>exact False.elim hq
    | cont=>exact False.elim hq
theorem pe_callX (R:Pass X Ex) (F:FnOk X.prog X.w X.K X.mg X.base (CX1 X.prog X.w) k f fd ps sp) (hr:Room k X.A) (hg:Gl X x) (hm:X.mg x=some (.ref f)) (hk:PySem.W.keepIn X.K (.ref f)=true) (hb:Binds X.K fd ps ds) (hd:Vals dvs ds)
    (ha:PA X (e::es) t) (hdb:(x == ("__debug__":Str))=false:=by decide) (he:starEach (e::es) X.env=(false,eval e X.env)::starEach es X.env:=by rfl) (hpl:(backTo pos (starEach es X.env)).any (·.1)=false:=by rfl) :
    PE X (.Call (.Name x p) (e::es) [] pos) (tCallX sp dvs Ex t):=by
  intro pins s σ H Q I h
  refine wpAny_Call_Name_kw (ld_glob I hg hm ?_ hdb)
  refine PySem.W.callWith_K (h₀:=X.base) I.ok.mod.kin hk (thn (ha pos pins s σ H _ I h) fun us s1 ⟨vs,H1,I1,r,q⟩=>⟨I1.kIn,?_⟩) he hpl
  exact run_fnX R F hr hb hd I1 r q
end
abbrev bmV:List Value:=[.type "ValueError",.type "Exception",.type "BaseException",.type "object"]
structure ExcCls (K:PySem.W.Frag) (C:Addr):Prop where
  cls:(PySem.W.clsIn K C).isSome=true
  ty:PySem.W.typeIn K (.ref C)=some (.type "type")
  ga:PySem.W.findIn K (.ref C) "__getattribute__"=some (some (.builtin "BaseException.__getattribute__"))
  gx:PySem.W.findIn K (.ref C) "__getattr__"=some none
  ca:PySem.W.findIn K (.ref C) "__class__"=some (some (.builtin "object.__class__"))
  cg:PySem.W.specialIn K (.builtin "object.__class__") "__get__"=some (some (.builtin "getset_descriptor.__get__"))
  ct:PySem.W.takesIn K (.builtin "object.__class__")=some true
  mo:PySem.W.mroIn K C (.type "object")=some true
  mb:PySem.W.mroIn K C (.type "BaseException")=some true
theorem exc_obj {K:PySem.W.Frag}{h:Heap}{C:Addr}{bmB:List Value}{newId:String} (X:K.In h) (q:PySem.W.excIn K C bmB newId=true) :
    ∃bm N nm q bs hdct sn sub ab col dd k0 k1 k2 k3 k5 mN,h.get? C=some (excClassObj nm q C N bs bm hdct sn sub ab col dd k0 k1 k2 k3 k5 newId)∧h.Ns N mN∧mN "__init__"=none∧OwnTail h bmB bm:=by
  unfold PySem.W.excIn at q
  split at q
  · rename_i dd cd sl ho
    split at q
    · rename_i C' bm k0 k1 k2 k3 n k5 hm hs
      rw[Bool.and_eq_true,Bool.and_eq_true,Bool.and_eq_true,Bool.and_eq_true,Bool.and_eq_true] at q
      obtain⟨⟨⟨⟨⟨q1,q2⟩,q3⟩,ht⟩,hok⟩,hni⟩:=q
      obtain rfl:=beq_iff_eq.mp q1
      obtain rfl:=beq_iff_eq.mp q2
      have hdel:cd.hasDel=false:=by
        cases z:cd.hasDel with
        | false=>rfl
        | true=>rw[z] at q3;cases q3
      have hni':=beq_iff_eq.mp hni
      obtain⟨nm,bs,mro,ns,qn,hd,sn,sub,ab,col,del⟩:=cd
      dsimp only at hm hdel hok hni'
      subst hm hdel
      obtain⟨l⟩:=sl
      dsimp only at hs
      subst hs
      exact⟨bm,ns,nm,qn,bs,hd,sn,sub,ab,col,dd,k0,k1,k2,k3,k5,_,X _ _ ho,.of_isNs (PySem.W.isNs_of_in X hok),PySem.W.nsMap_none_of_in X hok hni',PySem.W.tail_of_in X ht⟩
    · cases q
  · cases q
def tRaise (C:Addr) (Ex:XS) (t:TA):TS:=fun _ σ H=>t σ H fun vs H1=>vs.length≤sizeLine∧Ex (.ref C) σ H1
section
variable {X:Cx}{Ex:XS}{x:Str}{C:Addr}{e₀:Expr}{rest:List Expr}{np cpos pos:Pos}{t:TA}
theorem ps_raise (R:Rais X Ex) (hc:X.calm=true) (hg:Gl X x) (hm:X.mg x=some (.ref C)) (q:PySem.W.excIn X.K C bmV "ValueError.__new__"=true) (ha:PA X (e₀::rest) t)
    (he:starEach (e₀::rest) X.env=(false,eval e₀ X.env)::starEach rest X.env:=by rfl) (hplain:(backTo cpos (starEach rest X.env)).any (·.1)=false:=by rfl) (hd:(x == ("__debug__":Str))=false:=by decide) :
    PS X (.Raise (some (.Call (.Name x np) (e₀::rest) [] cpos)) none pos) (tRaise C Ex t):=by
  intro pins s σ H D I h
  obtain⟨tl,N,nm,qn,bs,hdct,sn,sub,ab,col,dd,k0,k1,k2,k3,k5,mN,hC,hN,hni,T⟩:=exc_obj I.mod.kin q
  have FB:=PySem.F.excBase_ValueError
  refine wpAny_Raise_call_subT (C:=C) (nm:=nm) (q:=qn) (N:=N) (bs:=bs) (bm:=tl) (hdct:=hdct) (sn:=sn) (sub:=sub) (ab:=ab) (col:=col) (dd:=dd) (k0:=k0) (k1:=k1) (k2:=k2) (k3:=k3) (k5:=k5)
    FB (mN:=mN) (T.hasType FB.hasBase) (I.ok.hd hc) (by rw[he];show(false||(backTo cpos (starEach rest X.env)).any (·.1))=false;rw[hplain];rfl) hni (ld_glob I hg hm ⟨rfl,?_⟩ hd)
  have hs:=ha cpos pins s σ H _ I h
  rw[he] at hs⊢
  refine Calls.evalArgs_plain (thn hs fun us s2 ⟨vs,H2,I2,r,z,q2⟩=>?_)
  have kb:∀b o,X.base.get? b=some o→s2.heap.get? b=some o:=I2.bk
  exact⟨rfl,by show us.length≤sizeLine;rw[← r.length];exact z,kb _ _ hC,hN.keeps kb,T.keeps kb,fun h' e hx=>R.nw pins σ H2 s2 e C h' us I2 hx q2⟩
end
def excO (e C:Addr):HO:=.ext fun h=>∃oe,h.get? e=some oe∧oe.cls = .ref C
section
variable {X:Cx}{pins:List (Addr×Obj)}{σ:St}{H H':Hp}{s s':Shared}{e C:Addr}
theorem Inv.track {o:HO} (I:Inv X pins σ H s) (hn:H e=none) (h0:X.s₀.heap.get? e=none) (hL:e≠X.env.locals) (hc:∀x c,X.env.cells.lookup x=some c→c≠e) (hp:∀p∈X.pn++pins,p.1≠e) (hfs:e∉X.fs)
    (new:ObjOk X.prog X.w (upd H e o) s.heap e o):Inv X pins σ (upd H e o) s:=by
  have ne:∀b u,H b=some u→b≠e:=fun b u q=>ne_of_none q hn
  refine⟨I.ok,I.os,I.bare,⟨I.base.keep,I.base.slot,fun b ob q n hx=>?_,I.base.there,fun b xs q=>?_,fun b ob u q=>?_,fun b ps q=>?_⟩,I.loc,I.cell,?_,fun x c q=>?_,fun p q=>?_,fun b u q=>?_,I.len⟩
  · rw[upd_ne (fun z=>by rw[z,h0] at q;cases q)]
    exact I.base.free b ob q n hx
  · have z:=I.base.tups b xs q
    rw[upd_ne (ne _ _ z)]
    exact z
  · have z:=I.base.frzs b ob u q
    rw[upd_ne (ne _ _ z)]
    exact z
  · obtain⟨m,z⟩:=I.base.tbls b ps q
    exact⟨m,by rw[upd_ne (ne _ _ z)];exact z⟩
  · rw[upd_ne hL.symm]
    exact I.free
  · rw[upd_ne (hc x c q)]
    exact I.freeC x c q
  · obtain⟨z1,z2,z3⟩:=I.pin p q
    exact⟨z1,by rw[upd_ne (hp p q)];exact z2,z3⟩
  · by_cases hb:b=e
    · subst hb
      rw[upd_same] at q
      cases q
      exact new
    · rw[upd_ne hb] at q
      exact(I.hok b u q).stay (fun c v _ z=>z) (fun c z=>by rw[upd_ne (ne _ _ z)];exact z) fun c xs z=>by rw[upd_ne (ne _ _ z)];exact z
end
def hanX (X:Cx) (e:Addr):Cx:={ X with A:=X.A.mark (some (.ref e)),calm:=false,xe:=fun _ _=>False }
def tryX (X:Cx) (pins:List (Addr×Obj)) (Ex:XS):Cx :=
  { X with pn:=X.pn++pins,xe:=fun ev s'=>∃e C σ H s H',ev=Value.ref e∧Inv X pins σ H s∧Fly X.prog X.w X.stack H s e C H' s'∧CN s'.heap e∧Ex (.ref C) σ H' }
section
variable {X:Cx}{pins:List (Addr×Obj)}{σ:St}{H H':Hp}{s s':Shared}{e C:Addr}{Ex:XS}
theorem Inv.han (I:Inv X pins σ H s) (e:Addr):Inv (hanX X e) pins σ H s:=by
  obtain⟨⟨o1,o2,o3,o4,o5,o6,o7,o8,o9,o10,o11,o12,o13,o14,o15,o16,o17,o18⟩,i2,i3,i4,i5,i6,i7,i8,i9,i10,i11⟩:=I
  exact⟨⟨o1,o2,o3,o4,o5,o6,o7,o8,fun z=>(Bool.false_ne_true z).elim,o10,o11,o12,o13,o14,o15,o16,o17,o18⟩,i2,i3,i4,i5,i6,i7,i8,i9,i10,i11⟩
theorem Inv.unhan (hd:X.calm=true→X.A.handled=none) (I:Inv (hanX X e) pins σ H s):Inv X pins σ H s:=by
  obtain⟨⟨o1,o2,o3,o4,o5,o6,o7,o8,o9,o10,o11,o12,o13,o14,o15,o16,o17,o18⟩,i2,i3,i4,i5,i6,i7,i8,i9,i10,i11⟩:=I
  exact⟨⟨o1,o2,o3,o4,o5,o6,o7,o8,hd,o10,o11,o12,o13,o14,o15,o16,o17,o18⟩,i2,i3,i4,i5,i6,i7,i8,i9,i10,i11⟩
theorem Inv.tryIn (I:Inv X pins σ H s) (Ex:XS):Inv (tryX X pins Ex) [] σ H s:=by
  obtain⟨⟨o1,o2,o3,o4,o5,o6,o7,o8,o9,o10,o11,o12,o13,o14,o15,o16,o17,o18⟩,i2,i3,i4,i5,i6,i7,i8,i9,i10,i11⟩:=I
  exact⟨⟨o1,o2,o3,o4,o5,o6,o7,o8,o9,o10,o11,o12,o13,o14,o15,o16,o17,o18⟩,i2,i3,i4,i5,i6,i7,i8,fun p hp=>i9 p (by simpa [tryX] using hp),i10,i11⟩
theorem Inv.tryOut {pins2:List (Addr×Obj)} (I:Inv (tryX X pins Ex) pins2 σ H s):Inv X pins σ H s:=by
  obtain⟨⟨o1,o2,o3,o4,o5,o6,o7,o8,o9,o10,o11,o12,o13,o14,o15,o16,o17,o18⟩,i2,i3,i4,i5,i6,i7,i8,i9,i10,i11⟩:=I
  exact⟨⟨o1,o2,o3,o4,o5,o6,o7,o8,o9,o10,o11,o12,o13,o14,o15,o16,o17,o18⟩,i2,i3,i4,i5,i6,i7,i8,fun p hp=>i9 p (List.mem_append_left _ hp),i10,i11⟩
theorem pass_try:Pass (tryX X pins Ex) Ex where
  on:=fun pins2 σ H s e C H' s' I F cn q=>⟨e,C,σ,H,s,H',rfl,I.tryOut,F,cn,q⟩
theorem name_goes {M:Model}{A:Around}{E:Value→Shared→Prop}{i:Nat}{x:Str}{pos:Pos}{Q:Unit→Shared→Prop} (I:Inv X pins σ H s) (hN:X.N.Nodup) (hi:X.N[i]?=some x) (hk:X.env.scope.names.lookup x=some .local)
    (h:∀s',Inv X pins (σ.set i none) H s'→Q () s'):wpAny M A (do bindName X.env x .none;unbindBehindTheSuite X.env x pos) Q E s:=by
  obtain⟨m,hn,hl⟩:=id I.loc
  have hcls:(X.env.scope.kind == .class||(X.env.scope.kind == .module&&X.env.locals != X.env.globals))=false:=by rw[I.ok.kind];rfl
  refine wpAny_nameGoes_keeps hk hn hcls fun h' v hn' hs=>?_
  have below:∀b o,X.s₀.heap.get? b=some o→b≠X.env.locals:=fun b o e=>Nat.ne_of_lt (Nat.lt_of_lt_of_le (Heap.lt_size e) I.ok.above)
  refine h _ ⟨I.ok,I.os,I.bare,⟨fun b o e n hb hx=>?_,fun b o e n hb hx=>?_,I.base.free,fun b o e hx=>?_,I.base.tups,I.base.frzs,I.base.tbls⟩,⟨_,hn',fun j y v' e1 e2 e3=>?_⟩,fun y c e=>?_,I.free,I.freeC,fun p hp=>?_,fun b ob e=>?_,by simpa using I.len⟩
  · exact(hs.2 b (below b o e)).trans (I.base.keep b o e n hb hx)
  · obtain⟨sl,e1⟩:=I.base.slot b o e n hb hx
    exact⟨sl,(hs.2 b (below b o e)).trans e1⟩
  · obtain⟨o',e1⟩:=I.base.there b o e hx
    exact⟨o',(hs.2 b (below b o e)).trans e1⟩
  · by_cases hj:j=i
    · subst hj
      rw[List.getElem?_set] at e2
      split at e2
      · split at e2 <;> cases e2
      · rename_i z;exact absurd rfl z
    · rw[List.getElem?_set_ne (Ne.symm hj)] at e2
      obtain⟨u',r',q⟩:=hl j y v' e1 e2 e3
      refine⟨u',r',?_⟩
      have hy:y≠x:=fun e=>hj (nodup_ix hN e1 (e▸hi))
      rcases q with ⟨k,e⟩ | ⟨k,c,e,z⟩
      · exact .inl ⟨k,by show(if y=x then v else m y)=some u';rw[if_neg hy];exact e⟩
      · exact .inr ⟨k,c,e,z.sameBut hs (I.cne y c e)⟩
  · obtain⟨w',z⟩:=I.cell y c e
    exact⟨w',z.sameBut hs (I.cne y c e)⟩
  · obtain⟨e,n,ne,nf,d⟩:=I.pin p hp
    exact⟨(hs.2 p.1 ne).trans e,n,ne,nf,d⟩
  · refine(I.hok b ob e).stay (fun c w' hc q=>(hs.2 c ?_).trans q) (fun _ q=>q) fun _ _ q=>q
    rintro rfl
    rcases hc with rfl | hc
    · rw[I.free] at e;cases e
    · rw[I.free] at hc;cases hc
end
theorem exc_matches {K:PySem.W.Frag}{M:Model}{A:Around}{E:Value→Shared→Prop}{s:Shared}{e C S:Addr}{oe:Obj}{Q:Bool→Shared→Prop} (X:K.In s.heap) (c:ExcCls K S) (he:s.heap.get? e=some oe) (hc:oe.cls = .ref C)
    (hs:PySem.W.mroIn K C (.ref S)=some true) (h:Q true s):wpAny M A (excMatches (.ref e) (.ref S)) Q E s:=by
  have L0:PySem.W.Looks M s.heap (typeOf (.ref S)) (.type "type"):=PySem.W.looks_typeIn X c.ty
  have L1:PySem.W.Looks M s.heap (isSubtype (.type "type") (.type "tuple")) false:=PySem.W.Looks.of_pure tc_notTuple
  have L2:PySem.W.Looks M s.heap (isInstance (.ref S) (.type "tuple")) false:=L0.andThen L1
  have L3:PySem.W.Looks M s.heap (isSubtype (.ref S) (.type "BaseException")) true:=PySem.W.looks_mroIn X c.mb
  have L4:PySem.W.Looks M s.heap (isSubtype (.ref C) (.ref S)) true:=PySem.W.looks_mroIn X hs
  have L5:PySem.W.Looks M s.heap (typeOf (.ref e)) (.ref C):=hc▸(PySem.W.Looks.ld he).andThen .now
  have L6:PySem.W.Looks M s.heap (isType (.ref S)) true:=by
    have z:=c.cls
    unfold PySem.W.clsIn at z
    split at z
    · rename_i c' d' cd' sl' ho
      intro A' Q' E' s' k q
      unfold isType loadHead
      exact wpAny_bind (wpAny_loadPart (k _ _ (X _ _ ho)) (wpAny_pure q))
    · cases z
  obtain⟨hh,g,d,t,os⟩:=s
  unfold excMatches
  refine wpAny_bind (L2.at ?_)
  simp only[Bool.false_eq_true,if_false]
  refine wpAny_bind (wpAny_pure ?_)
  simp only[List.forIn_cons,List.forIn_nil]
  refine wpAny_bind (wpAny_bind ?_)
  unfold isExcClass
  refine wpAny_bind (wpAny_bind (L6.at ?_))
  simp only[if_true]
  refine L3.at ?_
  simp only[Bool.not_true,Bool.false_eq_true,if_false]
  refine wpAny_pure (wpAny_pure ?_)
  refine wpAny_bind (L5.at ?_)
  refine wpAny_bind (wpAny_bind (wpAny_bind (L4.at ?_)))
  simp only[if_true]
  exact wpAny_pure (wpAny_pure (wpAny_pure h))
section
open Builtin Builtin.ObjectAttr Builtin.Getset_descriptor
theorem exc_find {K:PySem.W.Frag}{M:Model}{h:Heap}{e C:Addr}{name:Str}{a g:Value} (X:K.In h) (h1:PySem.W.findIn K (.ref C) name=some (some a)) (h2:PySem.W.specialIn K a "__get__"=some (some g)) (h3:PySem.W.takesIn K a=some true) :
    PySem.W.Looks M h (find (.ref e) (.ref C) name) (.bind g a):=by
  have L1:=PySem.W.looks_findIn (M:=M) X h1
  have L2:PySem.W.Looks M h (getOf (some a)) (some g):=PySem.W.looks_specialIn X h2
  have L3:=PySem.W.looks_takesIn (M:=M) X h3
  exact L1.andThen (L2.andThen ((show PySem.W.Looks M h (dataDescriptor? (some a) (some g)) (some (g,a)) from L3.andThen .now).andThen (PySem.W.Looks.tag .now)))
theorem exc_class_get {prog:Program}{w:World}{A:Around}{s:Shared}{K:PySem.W.Frag}{x C:Addr}{R:Result→Shared→Prop}{tp:Value} (X:K.In s.heap) (I:∀M,PySem.W.Looks M s.heap (typeOf (.ref x)) (.ref C))
    (hm:PySem.W.mroIn K C (.type "object")=some true) (h:R (.ok (.ret (.ref C))) s):codeAny (model prog w) A (.call (.builtin "getset_descriptor.__get__") ⟨[.builtin "object.__class__",.ref x,tp],[]⟩) R s:=by
  obtain⟨hh,g,dr,t,os⟩:=s
  have L0:=I (model prog w)
  have L1:=PySem.W.looks_mroIn (M:=model prog w) X hm
  refine codeAny_call_builtin PySem.W.KF.slot_gs.plain PySem.W.KF.entry_gs (PySem.W.KF.slot_gs.check _ _ _ _ _ _ _ _ PySem.W.KF.type_class (PySem.W.KF.args_gs _ _ _) ?_)
  unfold Builtin.«getset_descriptor.__get__» descrGet
  rw[PySem.W.dga_obj]
  refine wpAny_bind (wpAny_pure ?_)
  unfold descrGetter descrCheckInstance descrNameAndClass isInstance
  simp only[PySem.W.KF.owner_class]
  repeat lk
  refine⟨Code.quiet_builtin _ (by decide +kernel),codeAny_builtin PySem.W.KF.entry_class ?_⟩
  unfold Builtin.«object.__class__» shownTypeOf
  repeat lk
  exact h
end
theorem exc_ga_check {M:Model}{A:Around}{E:Value→Shared→Prop}{s:Shared}{K:PySem.W.Frag}{x C:Addr}{nameV:Value}{Q:Unit→Shared→Prop} (X:K.In s.heap) (I:PySem.W.Looks M s.heap (typeOf (.ref x)) (.ref C))
    (hm:PySem.W.mroIn K C (.type "BaseException")=some true) (hq:Q () s):wpAny M A (checkBuiltinCall "BaseException.__getattribute__" ⟨[.ref x,nameV],[]⟩) Q E s:=by
  have hk:builtinKind "BaseException.__getattribute__"=some .slot:=by decide +kernel
  have hsplit:splitId "BaseException.__getattribute__"=some ("BaseException","__getattribute__"):=by decide +kernel
  have L1:=PySem.W.looks_mroIn (M:=M) X hm
  have L2:PySem.W.Looks M s.heap (isInstance (.ref x) (.type "BaseException")) true:=I.andThen L1
  have ha:=F.args_bexc_ga (.ref x) nameV
  obtain⟨hh,g,dr,t,os⟩:=s
  simp only[checkBuiltinCall,hk,hsplit]
  refine wpAny_bind (L2.at ?_)
  repeat (first | assumption | wp_step)
section
open Builtin Builtin.ObjectAttr Builtin.Getset_descriptor
theorem exc_ca {prog:Program}{w:World}{A:Around}{E:Value→Shared→Prop}{s:Shared}{K:PySem.W.Frag}{x C:Addr}{Q:Option Value→Shared→Prop} (X:K.In s.heap) (c:ExcCls K C) (I:∀M,PySem.W.Looks M s.heap (typeOf (.ref x)) (.ref C))
    (h:Q (some (.ref C)) { s with toks:=s.toks+1 }):wpAny (model prog w) A (getAttr? (.ref x) "__class__") Q E s:=by
  obtain⟨hh,g,d,t,os⟩:=s
  have L0:=I (model prog w)
  have L1:=PySem.W.looks_findIn (M:=model prog w) X c.ga
  have L2:=PySem.W.looks_findIn (M:=model prog w) X c.gx
  have L3:=exc_find (M:=model prog w) (e:=x) X c.ca c.cg c.ct
  have hx2:(Value.builtin "BaseException.__getattribute__" == Value.builtin "object.__getattribute__")=false:=by decide +kernel
  have f3:=F.excAttr_ValueError.ga.bind (.ref x)
  unfold getAttr? getAttrBy? getAttrBy
  refine wpAny_bind (wpAny_mkText (wpAny_bind (wpAny_attempt (wpAny_holding (wpAny_bind (L0.at (wpAny_bind (L1.at ?_))))))))
  dsimp only
  rw[if_neg (by rw[hx2,Bool.and_false];exact Bool.false_ne_true)]
  unfold getAttrByItsOwn hookBefore
  rw[if_pos (show onTheHeap (Value.ref C)=true from rfl)]
  refine wpAny_bind (L2.at ?_)
  refine wpAny_bind (wpAny_attempt (wpAny_holding ?_))
  unfold callGetattribute
  rw[if_neg (by decide)]
  unfold boundAndCalled
  refine wpAny_bind (wpAny_of_eq f3 ?_)
  refine wpAny_call (codeAny_call_builtin F.excAttr_ValueError.ga.plain F.entry_bexc_ga (exc_ga_check X L0 c.mb ?_))
  show wpAny _ _ (Builtin.«object.__getattribute__» ⟨[.ref x,.str "__class__" t],[]⟩) _ _ _
  unfold Builtin.«object.__getattribute__»
  refine wpAny_bind (wpAny_of_eq (a:=(Value.ref x,[Value.str "__class__" t])) rfl ?_)
  refine wpAny_bind (wpAny_of_eq (a:=("__class__":Str)) rfl ?_)
  refine wpAny_bind (L0.at (wpAny_bind (L3.at ?_)))
  show wpAny _ _ (holding [Value.builtin "object.__class__"] (call (.builtin "getset_descriptor.__get__") [.builtin "object.__class__",.ref x,.ref C]) >>= ret) _ _ _
  refine wpAny_bind (wpAny_holding (wpAny_call (exc_class_get (s:=⟨hh,g,d,t+1,os⟩) X I c.mo ?_)))
  show wpAny _ _ (ret (Value.ref C)) _ _ _
  refine wpAny_pure ?_
  show wpAny _ _ (handedOut (Value.ref C)) _ _ _
  exact PySem.W.handed_on rfl (wpAny_pure h)
end
end L2
set_option Elab.async false
set_option linter.all false
set_option maxRecDepth 100000
namespace L2
open PySem PySem.Spec PyProof.Rows
inductive TyX (K:PySem.W.Frag) (H:Hp):V→Value→Prop where
  | of {v:V}{t:Value} (h:TyOf K H v t):TyX K H v t
  | exc {e C:Addr} (h:H e=some (excO e C)) (c:ExcCls K C):TyX K H (.ref e) (.ref C)
theorem kitx_exc {K:PySem.W.Frag}{e C:Addr} (c:ExcCls K C):PySem.W.KitX K (.ref e) (.ref C) (fun h=>∃oe,h.get? e=some oe∧oe.cls = .ref C) where
  ty:=fun M h _ ⟨oe,h1,h2⟩=>h2▸(PySem.W.Looks.ld h1).andThen .now
  it:=fun _ _ X _=>by
    have z:=c.cls
    unfold PySem.W.clsIn at z
    split at z
    · rename_i c' d' cd' sl' ho
      intro A' Q' E' s' k q
      unfold isType loadHead
      exact wpAny_bind (wpAny_loadPart (k _ _ (X _ _ ho)) (wpAny_pure q))
    · cases z
  ne:=fun h tp dd its n sl X htp=>by
    refine Bool.eq_false_iff.mpr fun q=>?_
    have e:C=tp:=Value.ref.inj (beq_iff_eq.mp q)
    subst e
    have z:=c.cls
    unfold PySem.W.clsIn at z
    split at z
    · rename_i c' d' cd' sl' ho
      have z:=(X _ _ ho).symm.trans htp
      cases z
    · cases z
  ca:=fun X ⟨oe,h1,h2⟩ k=>exc_ca X c (fun M=>h2▸(PySem.W.Looks.ld h1).andThen .now) k
section
variable {X:Cx}{pins:List (Addr×Obj)}{σ:St}{H:Hp}{s:Shared}
theorem TyX.kit {x:V}{u t:Value} (I:Inv X pins σ H s) (rx:RelV x u) (ty:TyX X.K H x t):∃φ:Heap→Prop,PySem.W.KitX X.K u t φ∧φ s.heap∧u≠.builtin "__main__.__loader__#opaque":=by
  cases ty with
  | exc h c =>
    rename_i e C
    cases (show u=Value.ref e from rx)
    obtain⟨z,_⟩:=I.hok e _ h
    exact⟨_,kitx_exc c,z,fun z=>nomatch z⟩
  | of ty =>
    cases ty with
    | non=>cases (show u=Value.none from rx);exact⟨_,PySem.W.kitx_none,True.intro,fun z=>nomatch z⟩
    | bl y=>cases (show u=Value.bool y from rx);exact⟨_,PySem.W.kitx_bool,True.intro,fun z=>nomatch z⟩
    | int i=>obtain⟨t,q⟩:=(show ∃t,u=Value.int i t from rx);cases q;exact⟨_,PySem.W.kitx_int,True.intro,fun z=>nomatch z⟩
    | str y=>obtain⟨t,q⟩:=(show ∃t,u=Value.str y t from rx);cases q;exact⟨_,PySem.W.kitx_str,True.intro,fun z=>nomatch z⟩
    | flt y=>obtain⟨t,q⟩:=(show ∃t,u=Value.float y t from rx);cases q;exact⟨_,PySem.W.kitx_float,True.intro,fun z=>nomatch z⟩
    | @lst a xs ea =>
      cases (show u=Value.ref a from rx)
      obtain⟨_,_,n,_,h1⟩:=(show ObjOk X.prog X.w H s.heap a (.lst xs) from I.hok a _ ea)
      exact⟨_,PySem.W.kitx_list,⟨_,h1,rfl⟩,fun z=>nomatch z⟩
    | @frz a ob xs ea =>
      cases (show u=Value.ref a from rx)
      obtain⟨_,_,_,n,_,h1⟩:=(show ObjOk X.prog X.w H s.heap a (.frz ob (.lst xs)) from I.hok a _ ea)
      exact⟨_,PySem.W.kitx_list,⟨_,h1,rfl⟩,fun z=>nomatch z⟩
    | @tup a xs ea =>
      cases (show u=Value.ref a from rx)
      obtain⟨_,_,_,p⟩:=(show ObjOk X.prog X.w H s.heap a (.tup xs) from I.hok a _ ea)
      obtain⟨o,h1,h2,_⟩:=p
      exact⟨_,PySem.W.kitx_tuple,⟨o,h1,h2⟩,fun z=>nomatch z⟩
    | @dK a kvs ea =>
      cases (show u=Value.ref a from rx)
      obtain⟨_,_,vs,_,p⟩:=(show ObjOk X.prog X.w H s.heap a (.dK kvs) from I.hok a _ ea)
      obtain⟨o,es,ep,h1,h2,_⟩:=p
      exact⟨_,PySem.W.kitx_dict,⟨o,h1,h2.1⟩,fun z=>nomatch z⟩
    | @dT a kvs ea =>
      cases (show u=Value.ref a from rx)
      obtain⟨_,_,xs,_,o,es,ep,h1,h2,_⟩:=(show ObjOk X.prog X.w H s.heap a (.dT kvs) from I.hok a _ ea)
      exact⟨_,PySem.W.kitx_dict,⟨o,h1,h2.1⟩,fun z=>nomatch z⟩
    | @ins a C dx fs ea cl ha hn htk hm =>
      cases (show u=Value.ref a from rx)
      obtain⟨mA,O,_⟩:=ins_get I.hok ea
      obtain⟨od,J,_⟩:=O.look
      exact⟨_,PySem.W.kitx_own (cl.get _) cl.hd ha hn htk hm,J,fun z=>nomatch z⟩
def clsV:V→Option Value
  | .ty n=>some (.type n)
  | .ref a=>some (.ref a)
  | _=>none
theorem clsV_rel {c:V}{cv u:Value} (h:clsV c=some cv) (r:RelV c u):u=cv:=by
  cases c <;> first | (cases h;exact r) | cases h
theorem clsVs_rel:∀{cs:List V}{cvs us:List Value},cs.map clsV=cvs.map some→Vals cs us→us=cvs
  | [],[],_,_,.nil=>rfl
  | [],_::_,_,h,_=>by cases h
  | _::_,[],_,h,_=>by cases h
  | c::cs,cv::cvs,_,h,.cons r t=>by
    have h':=List.cons.inj (show clsV c::cs.map clsV=some cv::cvs.map some from h)
    rw[clsV_rel h'.1 r,clsVs_rel h'.2 t]
theorem call_isi:CallR X (.builtin "isinstance") (fun xs H Q=>∃v c t cv b,xs=[v,c]∧clsV c=some cv∧TyX X.K H v t∧PySem.W.kitOne X.K t cv=some b∧Q (.bl b) H):=by
  intro pins s σ H xs us Q I r h
  obtain⟨v,c,t,cv,b,rfl,hc,ty,hk,q⟩:=h
  obtain⟨u,cu,rfl,ru,rc⟩:=vals2 r
  obtain rfl:=clsV_rel hc rc
  obtain⟨φ,Z,p,ne⟩:=ty.kit I ru
  exact PySem.W.kia_one Z I.kIn p hk ne fun tk=>⟨.bl b,H,I.tok tk,rfl,q⟩
theorem call_isiT:CallR X (.builtin "isinstance") (fun xs H Q=>∃v tp cs t cvs b,xs=[v,.ref tp]∧H tp=some (.tup cs)∧cs.map clsV=cvs.map some∧TyX X.K H v t∧PySem.W.kitAny X.K t cvs=some b∧Q (.bl b) H):=by
  intro pins s σ H xs us Q I r h
  obtain⟨v,tp,cs,t,cvs,b,rfl,ht,hc,ty,hk,q⟩:=h
  obtain⟨u,cu,rfl,ru,rc⟩:=vals2 r
  cases (show cu=Value.ref tp from rc)
  obtain⟨φ,Z,p,ne⟩:=ty.kit I ru
  obtain⟨_,its,rv,o,h1,h2,n,h3⟩:=(show ObjOk X.prog X.w H s.heap tp (.tup cs) from I.hok tp _ ht)
  obtain rfl:=clsVs_rel hc rv
  obtain⟨oc,od,odt,osl⟩:=o
  dsimp only at h2 h3
  subst h2 h3
  exact PySem.W.kia_tup Z I.kIn p h1 hk ne fun tk=>⟨.bl b,H,I.tok tk,rfl,q⟩
end
section
variable {X:Cx}
theorem call_isiK (K:PySem.W.Frag) (h:X.K=K:=by rfl):CallR X (.builtin "isinstance") (fun xs H Q=>∃v c t cv b,xs=[v,c]∧clsV c=some cv∧TyX K H v t∧PySem.W.kitOne K t cv=some b∧Q (.bl b) H):=h▸call_isi
theorem call_isiTK (K:PySem.W.Frag) (h:X.K=K:=by rfl):CallR X (.builtin "isinstance") (fun xs H Q=>∃v tp cs t cvs b,xs=[v,.ref tp]∧H tp=some (.tup cs)∧cs.map clsV=cvs.map some∧TyX K H v t∧PySem.W.kitAny K t cvs=some b∧Q (.bl b) H):=h▸call_isiT
theorem ix_listK (K:PySem.W.Frag) (h:X.K=K:=by rfl):IxR X (rIxL K):=h▸ix_list
theorem ix_tupK (K:PySem.W.Frag) (h:X.K=K:=by rfl):IxR X (rIxT K):=h▸ix_tup
theorem call_lenK (K:PySem.W.Frag) (h:X.K=K:=by rfl):CallR X (.builtin "len") (fun xs H Q=>∃p ys,xs=[.ref p]∧(SqL K H p ys∨SqT K H p ys)∧Q (.int ys.length) H):=h▸call_len_seq
end
def tTry (tb:XS→TS) (K:PySem.W.Frag) (S:Addr) (i:Nat) (th:TS):TS:=fun D σ H =>
  tb (fun c σ' H'=>∃C,c = .ref C∧PySem.W.mroIn K C (.ref S)=some true∧∀e,H' e=none →
    th { nx:=fun σ2 H2=>D.nx (σ2.set i none) H2,rt:=D.rt,bk:=fun σ2 H2=>D.bk (σ2.set i none) H2,ct:=fun σ2 H2=>D.ct (σ2.set i none) H2 } (σ'.set i (some (.ref e))) (upd H' e (excO e C))) D σ H
theorem ps_try {X:Cx}{body suite:List Stmt}{b₀:Stmt}{x n:Str}{S:Addr}{i:Nat}{np hpos pos:Pos}{tb:XS→TS}{th:TS} (O:Own X) (hc:X.calm=true) (hb:∀pins Ex,PSs (tryX X pins Ex) body (tb Ex)) (hg:Gl X x) (hm:X.mg x=some (.ref S)) (cS:ExcCls X.K S)
    (hN:X.N.Nodup) (hi:X.N[i]?=some n) (hl:X.env.scope.names.lookup n=some .local) (hh:∀e,PSs (hanX X e) (b₀::suite) th) (hd:(x == ("__debug__":Str))=false:=by decide) :
    PS X (.Try body [.ExceptHandler (some (.Name x np)) (some n) (b₀::suite) hpos] [] [] pos) (tTry tb X.K S i th):=by
  intro pins s σ H D I h
  refine wpAny_Try_except (wpAny_mono (hb pins _ [] s σ H D (I.tryIn _) h) (fun f s1 q=>?_) fun ev s1 q=>?_)
  · cases f with
    | next=>obtain⟨σ1,H1,I1,q1⟩:=q;exact wpAny_execs_nil ⟨σ1,H1,I1.tryOut,q1⟩
    | brk=>obtain⟨σ1,H1,I1,q1⟩:=q;exact⟨σ1,H1,I1.tryOut,q1⟩
    | cont=>obtain⟨σ1,H1,I1,q1⟩:=q;exact⟨σ1,H1,I1.tryOut,q1⟩
    | ret u=>obtain⟨v1,σ1,H1,I1,r1,q1⟩:=q;exact⟨v1,σ1,H1,I1.tryOut,r1,q1⟩
  · obtain⟨e,C,σ1,H1,s2,H2,rfl,I2,F,_,C',ec,hs,k⟩:=q
    cases ec
    have hfr:=I2.ok.frames
    obtain⟨a0,B,fl,go⟩:=F.more
    have st:=O.st
    rw[st] at hfr
    have fl':Heap.FlyingW B (X.env::X.outer) e (.ref C) a0 s1.heap:=st▸fl
    refine wpAny_looks_onW hfr O.fr fl' fun h1 held1 up1=>?_
    refine wpAny_landsW held1 fun h2 fl2 up2=>?_
    have F2:Fly X.prog X.w X.stack H1 s2 e C H2 { s1 with heap:=h2 }:=go h2 (st.symm▸fl2) (up1.trans up2)
    have I3:=F2.inv I2
    have I3h:=I3.han e
    obtain⟨oe,vs,he,hec,_⟩:=F2.obj
    refine wpAny_handleBy_cons (codeAny_handlers_test (ld_glob (X:=hanX X e) I3h hg hm ?_ hd)) (by intro q;cases q)
    refine exc_matches (K:=X.K) I3.kIn cS he hec hs ?_
    refine codeAny_handlers_suite_as (lands_againW fl2 fun h3 fl3 up3=>?_)
    have F3:Fly X.prog X.w X.stack H1 s2 e C H2 { s1 with heap:=h3 }:=go h3 (st.symm▸fl3) ((up1.trans up2).trans up3)
    have I4:=F3.inv I2
    have nw:=F3.new
    have hn:=F3.untracked
    obtain⟨oe3,vs3,he3,hec3,_⟩:=F3.obj
    have I5:Inv X pins σ1 (upd H2 e (excO e C)) { s1 with heap:=h3 }:=by
      refine I4.track hn ?_ ?_ (fun y c q z=>?_) (fun p hp z=>?_) (fun z=>?_) ⟨⟨oe3,he3,hec3⟩,⟨oe3,he3⟩,fun g1 g2 q1 q2=>?_⟩
      · cases q:X.s₀.heap.get? e with
        | none=>rfl
        | some o =>
          obtain⟨o',z⟩:=I2.base.there e o q (O.nex e)
          rw[nw] at z
          cases z
      · rintro rfl
        obtain⟨m,⟨o,_,_,ho,_⟩,_⟩:=I2.loc
        rw[nw] at ho
        cases ho
      · subst z
        obtain⟨v,o,ho,_⟩:=I2.cell y c q
        rw[nw] at ho
        cases ho
      · have ho:=(I2.pin p hp).1
        rw[z,nw] at ho
        cases ho
      · obtain⟨_,o,ho,_⟩:=I2.funs.mem z
        rw[nw] at ho
        cases ho
      · obtain⟨o,z1,z2⟩:=q1
        exact⟨o,q2 o z1,z2⟩
    refine store_ok (X:=hanX X e) (v:=.ref e) (I5.han e) hN hi (.inl hl) rfl (fun s4 I6=>?_) (.inr hl)
    refine wpAny_mono (hh e pins s4 _ _ _ I6 (k e hn)) (fun f s5 q5=>?_) fun _ _ z=>z.elim
    have hdl:X.calm=true→X.A.handled=none:=I2.ok.hd
    cases f with
    | next=>obtain⟨σ5,H5,I7,q7⟩:=q5;exact name_goes (I7.unhan hdl) hN hi hl fun s6 I8=>⟨_,H5,I8,q7⟩
    | brk=>obtain⟨σ5,H5,I7,q7⟩:=q5;exact name_goes (I7.unhan hdl) hN hi hl fun s6 I8=>⟨_,H5,I8,q7⟩
    | cont=>obtain⟨σ5,H5,I7,q7⟩:=q5;exact name_goes (I7.unhan hdl) hN hi hl fun s6 I8=>⟨_,H5,I8,q7⟩
    | ret u=>obtain⟨v5,σ5,H5,I7,r7,q7⟩:=q5;exact name_goes (I7.unhan hdl) hN hi hl fun s6 I8=>⟨v5,_,H5,I8,r7,q7⟩
section
variable {X:Cx}
def rCatQ (K:PySem.W.Frag):R2:=fun x y H Q=>∃l b xs zs,x = .ref l∧y = .ref b∧SqL K H l xs∧SqL K H b zs∧xs.length+zs.length≤sizeLine∧∀p,H p=none→Q (.ref p) (upd H p (.lst (xs++zs)))
theorem op_catQ:OpR X (binaryOp .Add) (rCatQ X.K):=by
  intro pins s σ H x y v u Q I rx ry h
  obtain⟨l,b,xs,zs,rfl,rfl,hH,hB,hz,q⟩:=h
  cases rx
  cases ry
  obtain⟨its,r,pl,hl⟩:=I.list hH
  obtain⟨its2,r2,pl2,hl2⟩:=I.list hB
  obtain⟨⟨cls,dd,data,sl⟩,n,ho,hc,_,hd⟩:=pl
  obtain⟨⟨cls2,dd2,data2,sl2⟩,n2,ho2,hc2,_,hd2⟩:=pl2
  dsimp only at hc hd hc2 hd2
  subst hc hd hc2 hd2
  have ea:its.toArray++its2.toArray=(its++its2).toArray:=by simp
  refine concat_meets ⟨_,ho,rfl⟩ ⟨_,ho2,rfl⟩ noFill_list_add seq_list_add PySem.F.slot_list_add PySem.F.entry_list_add (PySem.F.args_list_add_2 _ _) (list_addW l b its.toArray its2.toArray n n2 dd dd2 sl sl2 (by rw[List.size_toArray,List.size_toArray,← r.length,← r2.length];exact hz)) ⟨ho,ho2,?_⟩
  rw[ea]
  exact⟨.ref _,_,I.lnew (t':=s.toks) (r.append r2) (by rw[List.length_append];exact hz),rfl,q _ I.fresh⟩
def rEqL (K:PySem.W.Frag) (f:Bool→Bool):R2:=fun x y H Q=>∃(l b:Addr) (ns ms:List Int),x = .ref l∧y = .ref b∧SqL K H l (ns.map V.int)∧SqL K H b (ms.map V.int)∧Q (.bl (f (decide (ns=ms)))) H
theorem op_eqL (hu:X.A.units+64<cLine):OpR X (compareOp .Eq) (rEqL X.K id):=by
  intro pins s σ H x y v u Q I rx ry h
  obtain⟨l,b,ns,ms,rfl,rfl,hH,hB,q⟩:=h
  cases rx
  cases ry
  obtain⟨its,r,pl,hl⟩:=I.list hH
  obtain⟨its2,r2,pl2,hl2⟩:=I.list hB
  exact PySem.W.eq_intsK pl.isList (intsAre_of r) pl2.isList (intsAre_of r2) hu ⟨.bl (decide (ns=ms)),H,I,rfl,q⟩
theorem op_neL (hu:X.A.units+64<cLine):OpR X (compareOp .NotEq) (rEqL X.K (!·)):=by
  intro pins s σ H x y v u Q I rx ry h
  obtain⟨l,b,ns,ms,rfl,rfl,hH,hB,q⟩:=h
  cases rx
  cases ry
  obtain⟨its,r,pl,hl⟩:=I.list hH
  obtain⟨its2,r2,pl2,hl2⟩:=I.list hB
  exact PySem.W.ne_intsK pl.isList (intsAre_of r) pl2.isList (intsAre_of r2) hu ⟨.bl (!decide (ns=ms)),H,I,rfl,q⟩
def CMulB (i j:Int):Prop:=CMul i j∨(i.natAbs<2^2000000∧j.natAbs<2^2000000)
theorem CMulB.ok {i j:Int} (h:CMulB i j):IntMulOk i j:=by
  rcases h with h | ⟨h1,h2⟩
  · exact h.ok
  · exact IntMulOk.of_le (m:=2000000) (n:=2000000) (intBits_le_iff.mpr h1) (intBits_le_iff.mpr h2) (by decide)
theorem op_mulB:OpR X (binaryOp .Mult) (rI CMulB fun i j=>.int (i*j)):=opI fun i j t u s Q E hc h=>mul_int h hc.ok
def CDivB (_ j:Int):Prop:=j≠0∧j.natAbs<2^8000
def tDNewK:TE:=fun _ H Q=>∀p,H p=none→Q (.ref p) (upd H p (.dK []))
end
end L2
set_option Elab.async false
set_option linter.all false
set_option maxRecDepth 100000
namespace L2
open PySem PySem.Spec PyProof.Rows
structure Tx (K:PySem.W.Frag) (mg:Str→Option Value) (x:Str) (st:Stmt) (ps:List Str) (f:Addr) (fd:FuncData):Prop where
  fn:Fun K x x st f fd
  at_:mg x=some (.ref f)
  bd:∀us:List Value,us.length=ps.length→bindArgs fd ⟨us,[]⟩=pure (ps.zip us)
theorem tx_mk {K:PySem.W.Frag}{mg:Str→Option Value}{h:Heap}{x:Str}{st:Stmt}{ps:List Str}{f:Addr}{oc:Value}{od an:Option Addr}{osl:Array (Option Value)}{kV doc pm cdv ct:Value} (X:K.In h) (G:h.Ns mainGlobals mg)
    (a:PySem.W.nsIn K mainGlobals x=some (some (.ref f))) (l:K.lookup f=some ⟨oc,od,.func (PySem.W.fnOf x x (defArgs st) (defBody st) (defScope st) .none kV doc pm an cdv ct),osl⟩)
    (c:PySem.W.codeIn K cdv x=true) (k:PySem.W.keepIn K (.ref f)=true)
    (hb:∀(kV doc pm:Value) (an:Option Addr) (cdv ct:Value) (us:List Value),us.length=ps.length→bindArgs (PySem.W.fnOf x x (defArgs st) (defBody st) (defScope st) .none kV doc pm an cdv ct) ⟨us,[]⟩=pure (ps.zip us)) :
    ∃f fd,Tx K mg x st ps f fd:=⟨f,_,fun_mk l c k,PySem.W.mg_of X G a,hb kV doc pm an cdv ct⟩
structure Df (P:Program) (w:World) (K:PySem.W.Frag) (mg:Str→Option Value) (base:Heap) (CX:CXT) (k:Nat) (x:Str) (ps:List Str) (sp:Sp) (f:Addr) (fd:FuncData):Prop where
  at_:mg x=some (.ref f)
  kp:PySem.W.keepIn K (.ref f)=true
  ok:FnOk P w K mg base CX k f fd ps sp
  bd:Binds K fd ps []
section
variable {P:Program}{w:World}{K:PySem.W.Frag}{mg:Str→Option Value}{base:Heap}{x:Str}{st:Stmt}{ps N:List Str}{f:Addr}{fd:FuncData}{k:Nat}{sp:Sp}
theorem Tx.df0 (t:Tx K mg x st ps f fd) (S:FnScope N ps (defScope st)) (len:∀vs H Q E,sp vs H Q E→vs.length=ps.length)
    (hbody:∀(cdv:Value) (A:Around) (outer:List Env) (s:Shared) (H:Hp) (vs:List V) (Q:VK) (E:XK),Room k (A.deeper (envOfC x (defScope st) s.heap.objs.size f cdv))→sp vs H Q E →
      ∃t,PSs (cxOf CX0 P w K mg base N x (defScope st) f cdv A outer s H E).nox (defBody st) t∧t { nx:=fun _ H'=>Q .non H',rt:=Q } (start N vs) H):Df P w K mg base CX0 (k+1) x ps sp f fd :=
  ⟨t.at_,t.fn.kp,t.fn.ok S len hbody,.all t.bd⟩
theorem Tx.df1 (t:Tx K mg x st ps f fd) (S:FnScope N ps (defScope st)) (len:∀vs H Q E,sp vs H Q E→vs.length=ps.length)
    (hbody:∀(cdv:Value) (A:Around) (outer:List Env) (s:Shared) (H:Hp) (vs:List V) (Q:VK) (E:XK),Room k (A.deeper (envOfC x (defScope st) s.heap.objs.size f cdv))→sp vs H Q E →
      ∃t,PSs (cxOf (CX1 P w) P w K mg base N x (defScope st) f cdv A outer s H E) (defBody st) t∧t { nx:=fun _ H'=>Q .non H',rt:=Q } (start N vs) H):Df P w K mg base (CX1 P w) (k+1) x ps sp f fd :=
  ⟨t.at_,t.fn.kp,t.fn.ok1 S len hbody,.all t.bd⟩
end
section
variable {X:Cx}{Ex:XS}{k j:Nat}{f:Addr}{fd:FuncData}{ps:List Str}{sp:Sp}{x:Str}{p pos:Pos}{e:Expr}{es:List Expr}{t:TA}
theorem pe_d0 (D:Df X.prog X.w X.K X.mg X.base CX0 k x ps sp f fd) (hr:Room j X.A) (hj:k≤j) (hg:Gl X x) (ha:PA X (e::es) t) (hdb:(x == ("__debug__":Str))=false:=by decide) (he:starEach (e::es) X.env=(false,eval e X.env)::starEach es X.env:=by rfl) (hpl:(backTo pos (starEach es X.env)).any (·.1)=false:=by rfl) :
    PE X (.Call (.Name x p) (e::es) [] pos) (tCall sp [] E0 t):=pe_call D.ok (hr.mono hj) hg D.at_ D.kp D.bd .nil pass0 ha hdb he hpl
theorem pe_d1 (R:Pass X Ex) (D:Df X.prog X.w X.K X.mg X.base (CX1 X.prog X.w) k x ps sp f fd) (hr:Room j X.A) (hj:k≤j) (hg:Gl X x) (ha:PA X (e::es) t) (hdb:(x == ("__debug__":Str))=false:=by decide) (he:starEach (e::es) X.env=(false,eval e X.env)::starEach es X.env:=by rfl) (hpl:(backTo pos (starEach es X.env)).any (·.1)=false:=by rfl) :
    PE X (.Call (.Name x p) (e::es) [] pos) (tCallX sp [] Ex t):=pe_callX R D.ok (hr.mono hj) hg D.at_ D.kp D.bd .nil ha hdb he hpl
end
theorem pass_no {X:Cx}:Pass X (fun _ _ _=>False):=⟨fun _ _ _ _ _ _ _ _ _ _ _ q=>q.elim⟩
theorem comp_itr {n:Nat}{σ0:St}{H1:Hp}{i0:Nat}{c:TT}{te:TE}{Q:Addr→Hp→Prop} (f:Nat→Option V) (hn:n≤sizeLine)
    (step:∀(i:Nat) (H2:Hp) (k:VK) (k0:Hp→Prop),i<n→(∀y,f i=some y→k y H2)→(f i=none→k0 H2) →
      c (σ0.set i0 (some (.int (0+(i:Int))))) H2 fun b H4=>if b=true then te (σ0.set i0 (some (.int (0+(i:Int))))) H4 k else k0 H4)
    (h:∀D,H1 D=none→Q D (upd H1 D (.lst ((List.range n).filterMap f)))) :
    ∀D,H1 D=none→∃W:Nat→Nat→St→Hp→Prop,(∃m,W 0 m σ0 (upd H1 D (.lst [])))∧∀i m σ1 H2,W i m σ1 H2 →
      ((Itr 0 n).stop i H2∧Q D H2)∨((Itr 0 n).go i H2∧∃N:St→Hp→Prop,(∀σ' H',N σ' H'→∃m',m'<m∧W (i+1) m' σ' H') ∧
        ∀x H',(Itr 0 n).yld i H2 x H'→gName i0 x σ1 H' fun σ2 H3=>c σ2 H3 fun b H4=>if b=true then te σ2 H4 fun y H5=>∃xs,H5 D=some (.lst xs)∧xs.length<sizeLine∧N σ2 (upd H5 D (.lst (xs++[y]))) else N σ2 H4):=by
  intro D hD
  refine⟨fun i m σ1 H2=>σ1.set i0 none=σ0.set i0 none∧H2=upd H1 D (.lst ((List.range i).filterMap f))∧i≤n∧m=n-i,⟨n,rfl,rfl,Nat.zero_le _,rfl⟩,?_⟩
  rintro i m σ1 H2 ⟨hσ,rfl,hi,rfl⟩
  have hset:∀v:Option V,σ1.set i0 v=σ0.set i0 v:=fun v=>by
    have z:=congrArg (fun l=>List.set l i0 v) hσ
    simpa using z
  rcases Nat.lt_or_ge i n with hlt | hge
  · right
    refine⟨hlt,fun σ' H'=>σ'.set i0 none=σ0.set i0 none∧H'=upd H1 D (.lst ((List.range (i+1)).filterMap f)),fun σ' H' ⟨a,b⟩=>⟨n-(i+1),by omega,a,b,hlt,rfl⟩,?_⟩
    rintro x H' ⟨rfl,rfl⟩
    show c (σ1.set i0 (some (.int (0+(i:Int))))) _ _
    rw[hset]
    refine step i _ _ _ hlt (fun y hy=>⟨_,upd_same,?_,?_,?_⟩) fun hno=>⟨?_,?_⟩
    · refine Nat.lt_of_le_of_lt (List.length_filterMap_le _ _) ?_
      rw[List.length_range]
      omega
    · simp
    · rw[upd_upd,List.range_succ,List.filterMap_append]
      simp[hy]
    · simp
    · rw[List.range_succ,List.filterMap_append]
      simp[hno]
  · left
    obtain rfl:i=n:=Nat.le_antisymm hi hge
    exact⟨Nat.le_refl _,h D hD⟩
theorem atI_in {α:Type}{xs:List α}{i:Int} (h0:0≤i) (h1:i<xs.length):∃v,atI xs i=some v∧v∈xs:=by
  have hn:i.toNat<xs.length:=by omega
  refine⟨xs[i.toNat],?_,List.getElem_mem hn⟩
  have z:=atI_nat (xs:=xs) (j:=i.toNat) (List.getElem?_eq_getElem hn)
  rw[Int.toNat_of_nonneg h0] at z
  exact z
theorem Same.upd_new {H:Hp}{p:Addr}{o:HO} (h:H p=none):Same H (upd H p o):=fun b u e=>by
  rw[upd_ne (ne_of_none e h)]
  exact e
theorem Same.ty {K:PySem.W.Frag}{H H':Hp}{v:V}{t:Value} (s:Same H H') (h:TyOf K H v t):TyOf K H' v t:=by
  cases h with
  | non=>exact .non
  | bl x=>exact .bl x
  | int i=>exact .int i
  | str x=>exact .str x
  | flt x=>exact .flt x
  | lst e=>exact .lst (s _ _ e)
  | frz e=>exact .frz (s _ _ e)
  | tup e=>exact .tup (s _ _ e)
  | dK e=>exact .dK (s _ _ e)
  | dT e=>exact .dT (s _ _ e)
  | ins e cl ha hn htk hm=>exact .ins (s _ _ e) cl ha hn htk hm
theorem bt_isi:bootBuiltins "isinstance"=some (.builtin "isinstance"):=by decide +kernel
theorem bt_int:bootBuiltins "int"=some (.type "int"):=by decide +kernel
theorem bt_bool:bootBuiltins "bool"=some (.type "bool"):=by decide +kernel
theorem bt_list:bootBuiltins "list"=some (.type "list"):=by decide +kernel
theorem bt_len:bootBuiltins "len"=some (.builtin "len"):=by decide +kernel
theorem bt_abs:bootBuiltins "abs"=some (.builtin "abs"):=by decide +kernel
theorem bt_ve:bootBuiltins "ValueError"=some (.type "ValueError"):=by decide +kernel
theorem exc_mk {K:PySem.W.Frag}{C:Addr} (h2:PySem.W.typeIn K (.ref C)=some (.type "type")) (h3:PySem.W.findIn K (.ref C) "__getattribute__"=some (some (.builtin "BaseException.__getattribute__"))) (h4:PySem.W.findIn K (.ref C) "__getattr__"=some none)
    (h5:PySem.W.findIn K (.ref C) "__class__"=some (some (.builtin "object.__class__"))) (h6:PySem.W.specialIn K (.builtin "object.__class__") "__get__"=some (some (.builtin "getset_descriptor.__get__"))) (h7:PySem.W.takesIn K (.builtin "object.__class__")=some true)
    (h8:PySem.W.mroIn K C (.type "object")=some true) (h9:PySem.W.mroIn K C (.type "BaseException")=some true):ExcCls K C:=by
  refine⟨?_,h2,h3,h4,h5,h6,h7,h8,h9⟩
  unfold PySem.W.mroIn at h8
  obtain⟨cd,a,_⟩:=Option.bind_eq_some_iff.mp h8
  rw[a]
  rfl
inductive Kd:String→Prop where
  | non:Kd "NoneType"
  | bl:Kd "bool"
  | int:Kd "int"
  | str:Kd "str"
  | tup:Kd "tuple"
  | lst:Kd "list"
  | dic:Kd "dict"
theorem Kd.int_ (K:PySem.W.Frag){T:String} (h:Kd T):PySem.W.kitOne K (.type T) (.type "int")=some (T == "int" || T == "bool"):=by
  cases h <;> rfl
theorem Kd.bool_ (K:PySem.W.Frag){T:String} (h:Kd T):PySem.W.kitOne K (.type T) (.type "bool")=some (T == "bool"):=by
  cases h <;> rfl
theorem Kd.list_ (K:PySem.W.Frag){T:String} (h:Kd T):PySem.W.kitOne K (.type T) (.type "list")=some (T == "list"):=by
  cases h <;> rfl
def isI:V→Bool
  | .int _=>true
  | _=>false
structure Pl (K:PySem.W.Frag) (H:Hp) (v:V):Prop where
  ex:∃T,TyOf K H v (.type T)∧Kd T
theorem Pl.int {K:PySem.W.Frag}{H:Hp} (i:Int):Pl K H (.int i):=⟨_,.int i,.int⟩
theorem Pl.isI {K:PySem.W.Frag}{H:Hp}{v:V}{T:String} (h:TyOf K H v (.type T)):isI v=(T == "int"):=by
  cases h <;> rfl
theorem Pl.same {K:PySem.W.Frag}{H H':Hp}{v:V} (h:Pl K H v) (s:Same H H'):Pl K H' v:=let ⟨T,a,b⟩:=h.ex;⟨T,s.ty a,b⟩
def inB (lo hi:Int):V→Bool
  | .int i=>decide (lo≤i)&&decide (i≤hi)
  | _=>false
end L2
set_option Elab.async false
set_option linter.all false
set_option maxRecDepth 100000
namespace L2
open PySem PySem.Spec PyProof.Rows
section
variable {X:Cx}{pins:List (Addr×Obj)}{σ:St}{H H':Hp}{s:Shared}{h':Heap}
theorem Inv.turnedL {t':Nat}{fp:List Addr} (I:Inv X pins σ H s) (k:∀b o,b∉fp→s.heap.get? b=some o→h'.get? b=some o) (hf:∀b∈fp,FpOk X pins H b):Inv X pins σ H { s with heap:=h',toks:=t' }:=by
  have nit:∀b u,H b=some u→b∉fp:=fun b u e z=>by rw[(hf b z).1] at e;cases e
  refine I.step (g':=s.gens) (d':=s.drawn) (ch:=fp) (fun b hb=>?_) (fun b o _ _ hc e _=>k b o hc e) (fun b o _ _ hc e _=>⟨o.slots,k b o hc e⟩) (fun _ _ _ _ n=>n)
    (fun b o hc e=>⟨o,k b o hc e⟩) (fun _ _ e=>e) (fun _ _ _ e=>e) (fun b ps e=>⟨#[],by rw[e];simp⟩) (fun m hm=>?_) (fun b u e=>?_) I.bare
  · obtain⟨_,f1,_,f3,f4,f5⟩:=hf b hb
    exact⟨f3,f1,f4,f5⟩
  · obtain⟨o,es,ep,ho,r⟩:=hm
    exact⟨o,es,ep,k _ o (fun z=>(hf _ z).2.1 rfl) ho,r⟩
  · refine(I.hok b u e).stay (fun c v hc q=>k c v ?_ q) (fun _ q=>q) fun _ _ q=>q
    rcases hc with z | z
    · rw[z];exact nit b u e
    · exact nit c _ z
end
def Itz (K:PySem.W.Frag) (l1 l2:Addr):It :=
  ⟨fun i H=>∃xs ys x y,SqL K H l1 xs∧SqL K H l2 ys∧xs[i]?=some x∧ys[i]?=some y,
   fun i H v H'=>∃t x y,v = .ref t∧H t=none∧H'=upd H t (.tup [x,y])∧(∀xs,SqL K H l1 xs→xs[i]?=some x)∧∀ys,SqL K H l2 ys→ys[i]?=some y,
   fun i H=>∃xs ys,SqL K H l1 xs∧SqL K H l2 ys∧(xs.length≤i∨ys.length≤i)⟩
def zipTn (z TI TO i1 i2 l1 l2:Addr) (i:Nat) (h:Heap):Prop :=
  IsZip h z TI TO .none∧IsPair h TI (.ref i1) (.ref i2)∧(∃a b,IsPair h TO a b)∧h.IsListIter i1 l1 i∧h.IsListIter i2 l2 i
theorem turn_zip {P:Program}{w:World}{K:PySem.W.Frag}{elts:List Expr} {x1}{pos:Pos}{z TI TO i1 i2 l1 l2:Addr} (D:ZipApart z TI TO i1 i2 l1 l2) :
    Turn P w K (.Tuple elts x1 pos) (Itz K l1 l2) [z,TI,TO,i1,i2] z (zipTn z TI TO i1 i2 l1 l2) where
  mem:=by simp
  obj:=fun i h ⟨hz,hTI,⟨a,b,hTO⟩,⟨o1,h1,_,d1⟩,⟨o2,h2,_,d2⟩⟩ b hb=>by
    simp only[List.mem_cons,List.not_mem_nil,or_false] at hb
    rcases hb with rfl | rfl | rfl | rfl | rfl
    · exact⟨_,hz,fun v q=>nomatch q⟩
    · exact⟨_,hTI,fun v q=>nomatch q⟩
    · exact⟨_,hTO,fun v q=>nomatch q⟩
    · exact⟨_,h1,fun v q=>by rw[d1] at q;cases q⟩
    · exact⟨_,h2,fun v q=>by rw[d2] at q;cases q⟩
  keep:=fun i h h' ⟨hz,hTI,⟨a,b,hTO⟩,h1,h2⟩ k=>⟨k z (by simp) _ hz,k TI (by simp) _ hTI,⟨a,b,k TO (by simp) _ hTO⟩,h1.at fun o e=>k i1 (by simp) o e,h2.at fun o e=>k i2 (by simp) o e⟩
  item:=by
    intro X hP hw hK hc i pins s σ H E I hf st hg
    subst hP hw hK
    obtain⟨hz,hTI,⟨a,b,hTO⟩,h1,h2⟩:=st
    obtain⟨xs,ys,x,y,q1,q2,hx,hy⟩:=hg
    obtain⟨its1,r1,p1,z1⟩:=I.list q1
    obtain⟨its2,r2,p2,z2⟩:=I.list q2
    obtain⟨u,hu,ru⟩:=r1.get hx
    obtain⟨v,hv,rv⟩:=r2.get hy
    refine wpAny_pyNext_zip_item D hz hTI hTO h1 h2 p1.isList p2.isList (by simpa using hu) (by simpa using hv) fun h' a1 a2 a3 a4 a5 a6 a7=>⟨_,rfl,?_⟩
    refine wpAny_letOwnedTupleGo_zip a1 fun h'' b1 hs=>?_
    have lt:∀c o,s.heap.get? c=some o→c≠s.heap.objs.size:=fun c o e=>Nat.ne_of_lt (Heap.lt_size e)
    have ltz:s.heap.objs.size≠z:=(lt z _ hz).symm
    have I1:Inv X pins σ H { s with heap:=h'' }:=I.turnedL (t':=s.toks) (fun c o hb e=>(hs.2 c (fun q=>hb (by simp[q]))).trans (a7 c o (fun q=>hb (by simp[q])) (fun q=>hb (by simp[q])) (fun q=>hb (by simp[q])) (fun q=>hb (by simp[q])) e)) hf
    have ht:h''.get? s.heap.objs.size=some { cls:=.type "tuple",data:=.seq #[u,v] }:=(hs.2 _ ltz).trans a5
    have hn:H s.heap.objs.size=none:=I.hok.fresh (Nat.le_refl _)
    have I2:Inv X pins σ (upd H s.heap.objs.size (.tup [x,y])) { s with heap:=h'' }:=by
      refine I1.track hn (Heap.get?_none_of_le I.sz) (Nat.ne_of_lt I.lt).symm (fun y c q=>?_) (fun p hp=>?_) (I.nofs (Nat.le_refl _)) ⟨by show 2≤sizeLine;decide,[u,v],.cons ru (.cons rv .nil),_,ht,rfl,_,rfl⟩
      · obtain⟨_,o,ho,_⟩:=I.cell y c q
        exact lt c o ho
      · exact lt _ _ (I.pin p hp).1
    refine⟨.ref s.heap.objs.size,_,I2,rfl,⟨_,x,y,rfl,hn,rfl,fun xs' q=>?_,fun ys' q=>?_⟩,⟨b1,(hs.2 _ D.TIz).trans (a7 _ _ D.TIz D.TITO D.TIi1 D.TIi2 hTI),⟨_,_,(hs.2 _ D.TOz).trans a2⟩,a3.at fun o e=>(hs.2 _ D.i1z).trans e,a4.at fun o e=>(hs.2 _ D.i2z).trans e⟩,fun c hb=>?_⟩
    · rw[I.list_inj q q1];exact hx
    · rw[I.list_inj q q2];exact hy
    · obtain⟨o,ho,_⟩:∃o,s.heap.get? c=some o∧True:=by
        simp only[List.mem_cons,List.not_mem_nil,or_false] at hb
        rcases hb with rfl | rfl | rfl | rfl | rfl
        · exact⟨_,hz,trivial⟩
        · exact⟨_,hTI,trivial⟩
        · exact⟨_,hTO,trivial⟩
        · obtain⟨o,ho,_⟩:=h1;exact⟨o,ho,trivial⟩
        · obtain⟨o,ho,_⟩:=h2;exact⟨o,ho,trivial⟩
      rw[upd_ne (lt c o ho)]
      exact(hf c hb).1
  done:=by
    intro X hP hw hK hc i pins s σ H E I hf st hg
    subst hP hw hK
    obtain⟨hz,hTI,⟨a,b,hTO⟩,h1,h2⟩:=st
    obtain⟨xs,ys,q1,q2,hend⟩:=hg
    obtain⟨its1,r1,p1,z1⟩:=I.list q1
    obtain⟨its2,r2,p2,z2⟩:=I.list q2
    refine wpAny_pyNext_zip_end (I.ok.hd hc) D hz hTI hTO h1 h2 p1.isList p2.isList ?_ fun h' k=>⟨rfl,I.turnedL (t':=s.toks) (fun c o hb e=>k c o (fun q=>hb (by simp[q])) (fun q=>hb (by simp[q])) (fun q=>hb (by simp[q])) (fun q=>hb (by simp[q])) e) hf⟩
    have e1:=r1.length
    have e2:=r2.length
    rcases hend with h | h
    · left
      simp
      omega
    · right
      simp
      omega
  self:=fun _ _ _ _ _ st h=>wpAny_pyIter_zip st.1 h
def iZip (K:PySem.W.Frag) (ta:TA):TI:=fun σ H R=>ta σ H fun vs H1=>∃l1 l2,vs=[.ref l1,.ref l2]∧(∃xs,SqL K H1 l1 xs)∧(∃ys,SqL K H1 l2 ys)∧R (Itz K l1 l2) H1
theorem bt_zip:bootBuiltins "zip"=some (.type "zip"):=by decide +kernel
theorem pi_zip {X:Cx}{elts:List Expr} {x1}{tpos:Pos}{a b:Expr}{ta:TA}{p pos:Pos} (hg:Gl X "zip") (hm:X.mg "zip"=none) (ha:PA X [a,b] ta) (hs:starEach [a,b] X.env=[(false,eval a X.env),(false,eval b X.env)]:=by rfl) (hs2:starEach [b] X.env=[(false,eval b X.env)]:=by rfl) :
    PI X (.Tuple elts x1 tpos) (.Call (.Name "zip" p) [a,b] [] pos) (iZip X.K ta):=by
  intro pins s σ H R I h
  refine Call_ (ld_blt I hg hm bt_zip (PyProof.Rows.callWith_type1 (thn (ha pos pins s σ H _ I h) fun us s1 ⟨vs,H1,I1,r1,q1⟩=>?_) (by rw[hs,hs2]) (by rw[hs2];rfl)))
  obtain⟨l1,l2,e,⟨xs,q1⟩,⟨ys,q2⟩,q⟩:=q1
  subst e
  obtain⟨u,v,rfl,ru,rv⟩:=vals2 r1
  cases (show u=Value.ref l1 from ru)
  cases (show v=Value.ref l2 from rv)
  obtain⟨its1,r1,p1,z1⟩:=I1.list q1
  obtain⟨its2,r2,p2,z2⟩:=I1.list q2
  have t1:l1<s1.heap.objs.size:=by obtain⟨o,ho,_⟩:=p1.isList;exact Heap.lt_size ho
  have t2:l2<s1.heap.objs.size:=by obtain⟨o,ho,_⟩:=p2.isList;exact Heap.lt_size ho
  refine call_zip_2 p1.isList p2.isList fun h' hz hTI hTO hi1 hi2 hsz hk=>?_
  refine wpAny_pyIter_zip hz ?_
  have I2:Inv X pins σ H1 { s1 with heap:=h' }:=I1.kept (t':=s1.toks) hk
  refine⟨_,[s1.heap.objs.size+4,s1.heap.objs.size+2,s1.heap.objs.size+3,s1.heap.objs.size,s1.heap.objs.size+1],_,_,H1,rfl,I2,turn_zip (zipApart_new t1 t2),⟨hz,hTI,⟨_,_,hTO⟩,hi1,hi2⟩,fun c hc=>?_,q⟩
  have hge:s1.heap.objs.size≤c:=by
    simp only[List.mem_cons,List.not_mem_nil,or_false] at hc
    rcases hc with h | h | h | h | h
    all_goals first | (rw[h];exact Nat.le_add_right _ _) | exact Nat.le_of_eq h.symm
  have:=I1.fpOk (H':=H1) hge (I1.hok.fresh hge)
  exact this
end L2
set_option Elab.async false
set_option linter.all false
set_option maxRecDepth 100000
namespace L2
open PySem PySem.Spec PyProof.Rows
@[reducible] def calmA (A:Around):Around:={ A with handled:=none }
structure RoomU (k:Nat) (A:Around):Prop where
  dp:A.depth+3*k+5<recursionLimit
  un:A.units+16*k+200<cLine
structure FnOkU (P:Program) (w:World) (K:PySem.W.Frag) (mg:Str→Option Value) (base:Heap) (k:Nat) (f:Addr) (fd:FuncData) (ps:List Str) (sp:Sp):Prop where
  len:∀vs H Q E,sp vs H Q E→vs.length=ps.length
  run:∀(A:Around) (outer:List Env) (s:Shared) (H:Hp) (args:Args) (us:List Value) (vs:List V) (Q:VK) (E:XK),RoomU k A→Env0 P w K mg base A outer s H→BindsTo s fd args (ps.zip us)→Vals vs us→sp vs H Q E →
    codeAny (model P w) A (.call (.ref f) args) (CR CX0 outer P w H s Q E) s
def cxU (P:Program) (w:World) (K:PySem.W.Frag) (mg:Str→Option Value) (base:Heap) (N:List Str) (qual:Str) (scope:Scope) (f:Addr) (cd:Value) (A:Around) (outer:List Env) (s:Shared) (H:Hp):Cx :=
  { cxOf CX0 P w K mg base N qual scope f cd A outer s H E0 with calm:=false,xe:=fun _ _=>False }
structure DfU (P:Program) (w:World) (K:PySem.W.Frag) (mg:Str→Option Value) (base:Heap) (k:Nat) (x:Str) (ps:List Str) (sp:Sp) (f:Addr) (fd:FuncData):Prop where
  at_:mg x=some (.ref f)
  kp:PySem.W.keepIn K (.ref f)=true
  ok:FnOkU P w K mg base k f fd ps sp
  bd:Binds K fd ps []
section
variable {X:Cx}{k j:Nat}{f:Addr}{fd:FuncData}{ps:List Str}{sp:Sp}{x:Str}{p pos:Pos}{e:Expr}{es:List Expr}{t:TA}
end
end L2
set_option Elab.async false
set_option linter.all false
set_option maxRecDepth 100000
namespace L2
open PySem PySem.Spec PyProof.Rows PySem.W PySem.Calls
def Sm (n:Nat) (i:Int):Prop:=i.natAbs<2^n
theorem w_all:∀{ns:List Int}{m:Nat},WData.weightAll (ns.map WData.int)≤m→∀n∈ns,n.natAbs<2^(m+1)
  | [],_,_,n,h=>by cases h
  | x::r,m,h,n,hn=>by
    have h':WData.weight (WData.int x)+1+WData.weightAll (r.map WData.int)≤m:=by
      simpa [WData.weightAll] using h
    rcases List.mem_cons.mp hn with rfl | hn
    · have hx:WData.weight (WData.int n)≤m:=by omega
      have hw:(if n == 0 then 0 else n.natAbs.log2+1)≤m:=by simpa [WData.weight] using hx
      by_cases h0:n=0
      · subst h0
        exact Nat.two_pow_pos _
      · have hb:(n == 0)=false:=by simpa using h0
        rw[hb] at hw
        have hw2:n.natAbs.log2+1≤m:=by simpa using hw
        have hn0:n.natAbs≠0:=by omega
        exact(Nat.log2_lt hn0).mp (by omega)
    · exact w_all (m:=m) (by omega) n hn
theorem w_of {ns:List Int} (h:WData.layableAll [WData.list (ns.map WData.int)]=true):∀n∈ns,Sm 1048577 n:=by
  have h1:WData.layable (WData.list (ns.map WData.int))=true:=by
    have:=List.all_eq_true.mp h _ (List.mem_singleton.mpr rfl)
    exact this
  have h2:=(layableW_iff.mp h1).2.2
  have h3:WData.weightAll (ns.map WData.int)≤1048576:=by simpa [WData.weight] using h2
  exact w_all h3
theorem attach_callW {l:OpenLaw}{n:Nat}{q:Program}{loose:List Str}{XP:(Str→Option Value)→Heap→Prop}{YP:World→Heap→Prop}{d:DefRec}
    (hn:l.most=some n) (hdf:d.params.defaults=[])
    (call:∀(w:World) (s₀ s₁:Shared) (mg mb:Str→Option Value) (fa:Addr) (o:Obj) (pm cd doc:Value) (a:Addr) (vs:List Value) (ns:List Int),
      Ground q loose [] XP w s₀ mg mb s₁.heap→YP w s₁.heap →
      s₁.heap.get? fa=some o→o.data = .func (docDef d.name d.params d.body d.scope pm cd doc)→s₁.heap.CodeRec cd d.name→mg d.name=some (.ref fa) →
      s₁.heap.get? a=some { cls:=.type "list",data:=.seq vs.toArray }→IntsAre vs ns→ns.length≤n→(∀i∈ns,Sm 1048577 i)→s₁.gens=#[] →
      codeAny (model l.prog w) callerA (.call (.ref fa) ⟨[.ref a],[]⟩) (fun r s'=>r = .ok (.ret (.bool true))∧OldK s₁.heap s'.heap∧s'.os=s₁.os∧AllBare s'.gens) s₁) :
    WalkO q loose XP YP l.row.toRowW d [] (fun f vs=>PySem.call f vs):=by
  intro w s₀ s₁ mg mb G Y fa o pm cd doc dV kV ho hd hcd hD hmg hg args vals as hpre hlay hrd hwl hlo
  obtain rfl:dV = .none:=Dflts.none hD hdf
  obtain rfl:kV = .none:=Dflts.noKw hD
  obtain⟨a,vs,ns,rfl,rfl,hobj,hints,hlen⟩:=Att.script_of hn hpre hwl
  refine enter_call (codeAny_mono (call w s₀ s₁ mg mb fa o pm cd doc a vs ns G Y ho (fd_plain hd) hcd hmg hobj hints hlen (w_of hlay) hg) fun r s' hq=>?_)
  obtain⟨rfl,h2,h3,h4⟩:=hq
  exact⟨.inl ⟨.bool true,.bool true,[],rfl,fun _=>rfl,.bool true,Att.post_true l _,fun _=>⟨List.Pairwise.nil,fun _ hm=>(nomatch hm)⟩⟩,h2,h3,h4⟩
theorem walk_ofW {l:PySem.W.OpenLaw}{n k:Nat}{q:Program}{loose:List Str}{XP:(Str→Option Value)→Heap→Prop}{YP:World→Heap→Prop}{d:DefRec}{K:Params→PySem.W.Frag}{CX:World→CXT}{sp:World→Sp}{x:Str}
    (hn:l.most=some n) (hn2:n≤sizeLine) (hdf:d.params.defaults=[]) (hr:Room k callerA)
    (hY:∀(w:World) (h:Heap),YP w h→(K w.params).In h)
    (F:∀(w:World) (mg:Str→Option Value) (fa:Addr) (h:Heap),(K w.params).In h→h.Ns mainGlobals mg→mg d.name=some (.ref fa) →
      ∃fd:FuncData,(∀(s:Shared) (u:Value),BindsTo s fd ⟨[u],[]⟩ [(x,u)]) ∧
        ∀base:Heap,(K w.params).In base→base.Ns mainGlobals mg→FnOk l.prog w (K w.params) mg base (CX w) k fa fd [x] (sp w))
    (hsp:∀(w:World) (H:Hp) (a:Addr) (ns:List Int),ns.length≤n→(∀i∈ns,Sm 1048577 i)→Only H→SqL (K w.params) H a (ns.map V.int)→sp w [.ref a] H (fun v _=>v = .bl true) fun _ _ _=>False)
    (hCX:∀(w:World) (H:Hp) (s:Shared) (e:Value) (s':Shared),CX w [] H s (fun _ _ _=>False) e s'→False) :
    PySem.W.WalkO q loose XP YP l.row.toRowW d [] (fun f vs=>PySem.call f vs):=by
  refine attach_callW hn hdf fun w s₀ s₁ mg mb fa o pm cd doc a vs ns G Y ho hd hcd hmg hobj hints hlen hw hg=>?_
  have KX:=hY w _ Y
  obtain⟨fd,hb,hF⟩:=F w mg fa _ KX G.T.g hmg
  exact law_call KX G.T.g G.T.b G.T.builtins G.T.nolimit hg hobj hints (Nat.le_trans hlen hn2) hr hF hb (fun H hO hS=>hsp w H a ns hlen hw hO hS) fun H e s'=>hCX w H s₁ e s'
theorem if_joinN (P:St→Hp→Prop) (hk:∀σ H,P σ H→u D σ H) (h:(∀σ H,P σ H→u D σ H)→tIfS c t e { D with nx:=u D } (σ.set i (some v)) H):gName i v σ H (tSeq (tIfS c t e) u D):=h hk
theorem Sm.mono (h:Sm a i) (hab:a≤b):Sm b i:=Nat.lt_of_lt_of_le h (Nat.pow_le_pow_right (by decide) hab)
theorem Sm.of (a:Nat){b:Nat} (h:i.natAbs<2^a) (hab:a≤b):Sm b i:=Sm.mono (a:=a) h hab
theorem Sm.mb (h1:Sm m i) (h2:Sm n j) (hm:m≤2000000:=by decide) (hn:n≤2000000:=by decide):CMulB i j:=.inr ⟨h1.mono hm,h2.mono hn⟩
end L2
set_option Elab.async false
set_option linter.all false
set_option maxRecDepth 100000
namespace PySem.SeqAt
open AutoSeq1 (wpAny_loadPart')
open MeetsSeq MeetsSeq2 MeetsSeq3 SeqRoads2
theorem wpAny_forIn_rng {M:Model}{A:Around}{E:Value→Shared→Prop}{s:Shared}{β:Type} (f:Nat→β→Sem (ForInStep β)) (I:Nat→β→Shared→Prop) (Q:β→Shared→Prop) (n:Nat)
    (turn:∀i b s,i<n→I i b s→wpAny M A (f i b) (fun r s'=>match r with | .yield b'=>I (i+1) b' s' | .done b'=>Q b' s') E s)
    (fin:∀b s,I n b s→Q b s) (b:β) (h:I 0 b s):wpAny M A (forIn [0:n] b f) Q E s:=by
  rw[Std.Legacy.Range.forIn_eq_forIn_range']
  refine wpAny_forIn_list f (fun rest b s=>∃i,i≤n∧rest=List.range' i (n-i)∧I i b s) Q ?_ ?_ _ b ⟨0,Nat.zero_le _,?_,h⟩
  · rintro x rest b s ⟨i,hi,hr,hI⟩
    have hlt:i<n:=by
      rcases Nat.lt_or_ge i n with z | z
      · exact z
      · rw[show n-i=0 by omega] at hr;cases hr
    obtain⟨k,hk⟩:∃k,n-i=k+1:=⟨n-i-1,by omega⟩
    rw[hk,List.range'_succ] at hr
    obtain⟨rfl,rfl⟩:=List.cons.inj hr
    refine wpAny_mono (turn x b s hlt hI) (fun r s' hr=>?_) fun _ _ z=>z
    cases r with
    | done b'=>exact hr
    | yield b'=>exact⟨x+1,hlt,by rw[show n-(x+1)=k by omega],hr⟩
  · rintro b s ⟨i,hi,hr,hI⟩
    have:i=n:=by
      rcases Nat.lt_or_ge i n with z | z
      · obtain⟨k,hk⟩:∃k,n-i=k+1:=⟨n-i-1,by omega⟩
        rw[hk,List.range'_succ] at hr;cases hr
      · omega
    subst this
    exact fin _ _ hI
  · simp[Std.Legacy.Range.size]
theorem tuple_indexAt (l:Addr) (items:Array Value) (n:Nat) (dd:Option Addr) (sl:Array (Option Value)) (x:Value) (e:Value→Bool) (j:Nat) (hj:j<items.size)
    (hit:e items[j]=true) (hno:∀m (hm:m<items.size),m<j→e items[m]=false) :
    Meets (Builtin.«tuple.index» ⟨[.ref l,x],[]⟩)
      (fun A R s=>s.heap.get? l=some { cls:=.type "tuple",dict:=dd,data:=.seq items n,slots:=sl }∧(∀y,y∈items→EqAt A.in1 s y x (e y))∧R (.ok (.ret (.int (j:Nat) s.toks))) { s with toks:=s.toks+1 }) :=
  .of_wp fun prog w A R s h=>by
    obtain⟨hp,g,d,tk,os⟩:=s;obtain⟨hl,he,h⟩:=h
    wp_walk using wpAny_loadPart' hl,wpAny_forIn_rng _ (fun i b s'=>b.1=none∧s'=⟨hp,g,d,tk,os⟩∧i≤j) _ _
    case turn =>
      rintro i b s' hi ⟨hb,rfl,hij⟩
      have hi':i<items.size:=by omega
      rw[Array.getElem?_eq_getElem hi']
      refine wpAny_bind (he _ (Array.getElem_mem hi') prog w _ _ ?_)
      rcases Nat.lt_or_ge i j with z | z
      · rw[hno i hi' z]
        wp_walk
        exact⟨rfl,rfl,z⟩
      · obtain rfl:i=j:=by omega
        rw[hit]
        wp_walk
        exact⟨_,rfl,h⟩
    case fin =>
      rintro⟨b1,b2⟩ s' ⟨hb,rfl,hij⟩
      omega
    case h =>
      exact⟨rfl,rfl,Nat.zero_le _⟩
end PySem.SeqAt
namespace L2
open PySem PySem.Spec PyProof.Rows
theorem Same.sqt {K:PySem.W.Frag}{H H':Hp}{a:Addr}{xs:List V} (e:Same H H') (h:SqT K H a xs):SqT K H' a xs:=by
  rcases h with (h | ⟨o,h⟩) | h
  · exact .inl (.inl (e _ _ h))
  · exact .inl (.inr ⟨o,e _ _ h⟩)
  · exact .inr h
theorem Same.upd_ne' {H H':Hp}{D:Addr}{o:HO} (s:Same H H') (h:H D=none):Same H (upd H' D o):=fun b u e=>by
  rw[upd_ne (ne_of_none e h)]
  exact s b u e
theorem fm_mapV {α β:Type} (F:α→β):∀xs:List α,((List.range xs.length).filterMap fun i=>(xs[i]?).bind fun x=>some (F x))=xs.map F
  | []=>rfl
  | x::r=>by
    rw[List.length_cons,List.range_succ_eq_map,List.filterMap_cons,List.filterMap_map]
    show F x::_=F x::r.map F
    rw[← fm_mapV F r]
    rfl
theorem fm_bind {α β:Type} (f:α→Option β):∀xs:List α,((List.range xs.length).filterMap fun i=>(xs[i]?).bind f)=xs.filterMap f
  | []=>rfl
  | x::r=>by
    rw[List.length_cons,List.range_succ_eq_map,List.filterMap_cons,List.filterMap_map,List.filterMap_cons,← fm_bind f r]
    rfl
def SameBut (x:Addr) (H H':Hp):Prop:=∀b o,b≠x→H b=some o→H' b=some o
theorem Same.but {H H':Hp} (s:Same H H') (x:Addr):SameBut x H H':=fun b o _ e=>s b o e
theorem SameBut.then {x:Addr}{H H1 H2:Hp} (a:SameBut x H H1) (b:Same H1 H2):SameBut x H H2:=fun c o n e=>b c o (a c o n e)
theorem SameBut.updx {x:Addr}{H H1:Hp} (a:SameBut x H H1) (u:HO):SameBut x H (upd H1 x u):=fun c o n e=>by rw[upd_ne n];exact a c o n e
theorem SameBut.made {x dx:Addr}{H H':Hp}{C:Addr} (hx:H x=none) (hd:H dx=none) (ne:dx≠x) (s:SameBut x (upd (upd H dx (.own x)) x (.ins C dx [])) H'):Same H H':=fun b o e=>by
  have n1:b≠x:=ne_of_none e hx
  have n2:b≠dx:=ne_of_none e hd
  exact s b o n1 (by rw[upd_ne n1,upd_ne n2];exact e)
theorem FnOk.up {P:Program}{w:World}{K:PySem.W.Frag}{mg:Str→Option Value}{base:Heap}{k:Nat}{f:Addr}{fd:FuncData}{ps:List Str}{sp:Sp} (F:FnOk P w K mg base CX0 k f fd ps sp):FnOk P w K mg base (CX1 P w) k f fd ps sp :=
  ⟨F.len,fun A outer s H args us vs Q E hr he hb hv hs=>codeAny_mono (F.run A outer s H args us vs Q E hr he hb hv hs) fun r s' h=>by
    cases r with
    | error e=>exact False.elim h
    | ok fl=>cases fl <;> exact h⟩
structure Mx (K:PySem.W.Frag) (x qual:Str) (st:Stmt) (ps:List Str) (f:Addr) (fd:FuncData):Prop where
  fn:Fun K x qual st f fd
  bd:∀us:List Value,us.length=ps.length→bindArgs fd ⟨us,[]⟩=pure (ps.zip us)
theorem mx_mk {K:PySem.W.Frag}{x qual:Str}{st:Stmt}{ps:List Str}{f:Addr}{oc:Value}{od an:Option Addr}{osl:Array (Option Value)}{kV doc pm cdv ct:Value}
    (l:K.lookup f=some ⟨oc,od,.func (PySem.W.fnOf x qual (defArgs st) (defBody st) (defScope st) .none kV doc pm an cdv ct),osl⟩)
    (c:PySem.W.codeIn K cdv qual=true) (k:PySem.W.keepIn K (.ref f)=true)
    (hb:∀(kV doc pm:Value) (an:Option Addr) (cdv ct:Value) (us:List Value),us.length=ps.length→bindArgs (PySem.W.fnOf x qual (defArgs st) (defBody st) (defScope st) .none kV doc pm an cdv ct) ⟨us,[]⟩=pure (ps.zip us)) :
    ∃fd,Mx K x qual st ps f fd:=⟨_,fun_mk l c k,hb kV doc pm an cdv ct⟩
structure Md (P:Program) (w:World) (K:PySem.W.Frag) (mg:Str→Option Value) (base:Heap) (k:Nat) (ps:List Str) (sp:Sp) (f:Addr):Prop where
  ex:∃fd,FnOk P w K mg base (CX1 P w) k f fd ps sp∧Binds K fd ps []
section
variable {P:Program}{w:World}{K:PySem.W.Frag}{mg:Str→Option Value}{base:Heap}{x qual:Str}{st:Stmt}{ps N:List Str}{f:Addr}{fd:FuncData}{k j:Nat}{sp sp':Sp}
theorem Mx.md0 (t:Mx K x qual st ps f fd) (S:FnScope N ps (defScope st)) (len:∀vs H Q E,sp vs H Q E→vs.length=ps.length)
    (hbody:∀(cdv:Value) (A:Around) (outer:List Env) (s:Shared) (H:Hp) (vs:List V) (Q:VK) (E:XK),Room k (A.deeper (envOfC qual (defScope st) s.heap.objs.size f cdv))→sp vs H Q E →
      ∃t,PSs (cxOf CX0 P w K mg base N qual (defScope st) f cdv A outer s H E).nox (defBody st) t∧t { nx:=fun _ H'=>Q .non H',rt:=Q } (start N vs) H):Md P w K mg base (k+1) ps sp f :=
  ⟨fd,(t.fn.ok S len hbody).up,.all t.bd⟩
theorem Mx.md1 (t:Mx K x qual st ps f fd) (S:FnScope N ps (defScope st)) (len:∀vs H Q E,sp vs H Q E→vs.length=ps.length)
    (hbody:∀(cdv:Value) (A:Around) (outer:List Env) (s:Shared) (H:Hp) (vs:List V) (Q:VK) (E:XK),Room k (A.deeper (envOfC qual (defScope st) s.heap.objs.size f cdv))→sp vs H Q E →
      ∃t,PSs (cxOf (CX1 P w) P w K mg base N qual (defScope st) f cdv A outer s H E) (defBody st) t∧t { nx:=fun _ H'=>Q .non H',rt:=Q } (start N vs) H):Md P w K mg base (k+1) ps sp f :=
  ⟨fd,t.fn.ok1 S len hbody,.all t.bd⟩
theorem Md.up (M:Md P w K mg base k ps sp f) (h:k≤j):Md P w K mg base j ps sp f:=let ⟨fd,F,b⟩:=M.ex;⟨fd,⟨F.len,fun A outer s H args us vs Q E hr he hb hv hs=>F.run A outer s H args us vs Q E (hr.mono h) he hb hv hs⟩,b⟩
theorem Md.imp (M:Md P w K mg base k ps sp f) (h:∀vs H Q E,sp' vs H Q E→sp vs H Q E):Md P w K mg base k ps sp' f:=let ⟨fd,F,b⟩:=M.ex;⟨fd,F.imp h,b⟩
end
structure CMeth (K:PySem.W.Frag) (C:Addr) (m:Str) (f:Addr):Prop where
  ga:PySem.W.specialIn K (.ref C) "__getattribute__"=some (some (.builtin "type.__getattribute__"))
  rd:PySem.W.readsIn K C (.type "type")=true
  at_:PySem.W.findCls K (.ref C) (.type "type") m=some (.val (.ref f))
  kp:PySem.W.keepIn K (.ref f)=true
section
variable {X:Cx}{Ex:XS}{k j:Nat}{f C:Addr}{ps:List Str}{sp:Sp}{x m:Str}{p pos apos:Pos}{e o:Expr}{es:List Expr}{ta:TE}{t:TA}
theorem pe_cm {pl:Sem Bool} (R:Pass X Ex) (hg:Gl X x) (hm:X.mg x=some (.ref C)) (M:CMeth X.K C m f) (F:Md X.prog X.w X.K X.mg X.base k ps sp f) (hr:Room j X.A) (hj:k≤j) (ha:PA X (e::es) t)
    (hdb:(x == ("__debug__":Str))=false:=by decide)
    (hst:starEach (e::es) X.env=(false,eval e X.env)::starEach es X.env:=by rfl) (hpl:(backTo pos (starEach es X.env)).any (·.1)=false:=by rfl)
    (ht:eval (.Call (.Attribute (.Name x p) m apos) (e::es) [] pos) X.env=(do
      let ov ← eval (.Name x p) X.env
      standAt apos.atName
      let (f,first) ← holding [ov] (getMethod ov m pl)
      callWith pos f first (backTo pos (starEach (e::es) X.env)) (backToKw pos (keywordEach [] X.env))):=by rfl) :
    PE X (.Call (.Attribute (.Name x p) m apos) (e::es) [] pos) (tCallX sp [] Ex t):=by
  intro pins s σ H Q I h
  obtain⟨fd,F,hb⟩:=F.ex
  refine PySem.W.methodCall_KW (pl:=pl) (thn (pe_glob (v:=.ref C) hg hm rfl hdb pins s σ H (fun v H'=>v = .ref C∧H'=H) I ⟨rfl,rfl⟩) fun u s1 ⟨x,H1,I1,rx,ex,eH⟩=>?_) ht
  subst ex eH
  obtain rfl:u=Value.ref C:=rx
  refine PySem.W.method_cls I1.kIn M.ga (PySem.W.cls_value I1.kIn M.rd M.at_ rfl ?_)
  refine PySem.W.callWith_K (first:=[]) (h₀:=X.base) I.ok.mod.kin M.kp (thn (ha pos pins _ σ _ _ (I1.tok _) h) fun us s2 ⟨vs,H2,I2,r,q2⟩=>⟨I2.kIn,?_⟩) hst hpl
  exact run_fnX R F (hr.mono hj) hb .nil I2 r q2
def tMethX (K:PySem.W.Frag) (MO:Addr→Sp→Prop) (m:Str) (Ex:XS) (ta:TE) (t:TA):TE:=fun σ H Q=>ta σ H fun x H1=>∃a C dx fs g sp,x = .ref a∧H1 a=some (.ins C dx fs)∧fs.lookup m=none∧Cls K C∧Meth K C m g∧MO g sp ∧
  t σ H1 fun vs H2=>sp (x::vs) H2 Q fun c _ H'=>Ex c σ H'
theorem pe_methX {pl:Sem Bool} (R:Pass X Ex) (he:PE X o ta) (hr:Room j X.A) (hj:k≤j) (ha:PA X (e::es) t)
    (hst:starEach (e::es) X.env=(false,eval e X.env)::starEach es X.env:=by rfl) (hpl:(backTo pos (starEach es X.env)).any (·.1)=false:=by rfl)
    (ht:eval (.Call (.Attribute o m apos) (e::es) [] pos) X.env=(do
      let ov ← eval o X.env
      standAt apos.atName
      let (f,first) ← holding [ov] (getMethod ov m pl)
      callWith pos f first (backTo pos (starEach (e::es) X.env)) (backToKw pos (keywordEach [] X.env))):=by rfl) :
    PE X (.Call (.Attribute o m apos) (e::es) [] pos) (tMethX X.K (fun g sp=>∃ps,Md X.prog X.w X.K X.mg X.base k ps sp g) m Ex ta t):=by
  intro pins s σ H Q I h
  refine PySem.W.methodCall_KW (pl:=pl) (thn (he pins s σ H _ I h) fun u s1 ⟨x,H1,I1,rx,a,C,dx,fs,g,sp,ex,ea,l,c,hm,⟨ps,F⟩,q⟩=>?_) ht
  subst ex
  obtain rfl:u=Value.ref a:=rx
  obtain⟨fd,F,hb⟩:=F.ex
  refine getmeth_ok I1 ea c hm l ?_
  refine PySem.W.callWith_K (first:=[.ref a]) (h₀:=X.base) I.ok.mod.kin hm.kp (thn (ha pos pins s1 σ H1 _ I1 q) fun us s2 ⟨vs,H2,I2,r,q2⟩=>⟨I2.kIn,?_⟩) hst hpl
  exact run_fnX (us:=.ref a::us) (vs:=.ref a::vs) R F (hr.mono hj) hb .nil I2 (.cons rfl r) (by rw[List.append_nil];exact q2)
theorem pe_methX0 {pl:Sem Bool} (R:Pass X Ex) (he:PE X o ta) (hr:Room j X.A) (hj:k≤j)
    (ht:eval (.Call (.Attribute o m apos) [] [] pos) X.env=(do
      let ov ← eval o X.env
      standAt apos.atName
      let (f,first) ← holding [ov] (getMethod ov m pl)
      callWith pos f first (backTo pos (starEach [] X.env)) (backToKw pos (keywordEach [] X.env))):=by rfl) :
    PE X (.Call (.Attribute o m apos) [] [] pos) (tMethX X.K (fun g sp=>∃ps,Md X.prog X.w X.K X.mg X.base k ps sp g) m Ex ta tNil):=by
  intro pins s σ H Q I h
  refine PySem.W.methodCall_KW (pl:=pl) (thn (he pins s σ H _ I h) fun u s1 ⟨x,H1,I1,rx,a,C,dx,fs,g,sp,ex,ea,l,c,hm,⟨ps,F⟩,q⟩=>?_) ht
  subst ex
  obtain rfl:u=Value.ref a:=rx
  obtain⟨fd,F,hb⟩:=F.ex
  refine getmeth_ok I1 ea c hm l ?_
  exact PySem.W.callWith_K0 (first:=[.ref a]) I1.kIn hm.kp (run_fnX (us:=[.ref a]) (vs:=[.ref a]) R F (hr.mono hj) hb .nil I1 (.cons rfl .nil) q)
def tMakeX (C:Addr) (sp:Sp) (Ex:XS) (t:TA):TE:=fun σ H Q=>t σ H fun vs H1=>∀x dx,H1 x=none→H1 dx=none→dx≠x →
  sp (.ref x::vs) (upd (upd H1 dx (.own x)) x (.ins C dx [])) (fun v H2=>v = .non∧Q (.ref x) H2) fun c _ H'=>Ex c σ H'
theorem run_makeX {fd:FuncData}{pins:List (Addr×Obj)}{σ:St}{H:Hp}{s:Shared}{Q:VK}{us:List Value}{vs:List V} (R:Pass X Ex) (M:Mk X.K C f) (F:FnOk X.prog X.w X.K X.mg X.base (CX1 X.prog X.w) k f fd ps sp) (hr:Room (k+1) X.A) (hb:Binds X.K fd ps [])
    (I:Inv X pins σ H s) (r:Vals vs us)
    (h:∀x dx,H x=none→H dx=none→dx≠x→sp (.ref x::vs) (upd (upd H dx (.own x)) x (.ins C dx [])) (fun v H2=>v = .non∧Q (.ref x) H2) fun c _ H'=>Ex c σ H') :
    wpAny (model X.prog X.w) X.A (call (.ref C) us) (EP X pins σ Q) X.xe s:=by
  have hq:=h (s.heap.objs.size+1) s.heap.objs.size (I.hok.fresh (Nat.le_succ _)) (I.hok.fresh (Nat.le_refl _)) (Nat.ne_of_lt (Nat.lt_succ_self _))
  have I2:=Inv.made (C:=C) I
  have r2:Vals (V.ref (s.heap.objs.size+1)::vs) (Value.ref (s.heap.objs.size+1)::us):=.cons rfl r
  have hl:(Value.ref (s.heap.objs.size+1)::us).length=ps.length:=by
    have e:=r2.length
    rw[F.len _ _ _ _ hq] at e
    exact e.symm
  have hb2:=hb { s with heap:=(s.heap.push PySem.W.emptyDict).push (PySem.W.instObj C s.heap.objs.size) } (Value.ref (s.heap.objs.size+1)::us) I2.kIn (by rw[List.append_nil];exact hl)
  rw[List.append_nil] at hb2
  refine wpAny_call (make_map (f:=f) I.kIn M.makes M.init (beq_iff_eq.mp M.fn) (codeAny_mono (F.run _ X.stack _ _ ⟨Value.ref (s.heap.objs.size+1)::us,[]⟩ (Value.ref (s.heap.objs.size+1)::us) _ _ _ (hr.make C us [])
    (I2.env0.make C us []) hb2 r2 hq) fun r s' hq'=>?_))
  cases r with
  | error ev =>
    obtain⟨e,C',H',rfl,Fl,cn,q⟩:=hq'
    exact R.on pins σ _ _ e C' H' s' I2 Fl cn q
  | ok fl =>
    cases fl with
    | ret u =>
      obtain⟨v,H',I3,rv,ev,q3⟩:=I2.after hq'
      subst ev
      exact⟨rv,⟨V.ref (s.heap.objs.size+1),H',I3,rfl,q3⟩⟩
    | next=>exact False.elim hq'
    | brk=>exact False.elim hq'
    | cont=>exact False.elim hq'
theorem pe_makeX (R:Pass X Ex) (M:Mk X.K C f) (F:Md X.prog X.w X.K X.mg X.base k ps sp f) (hr:Room j X.A) (hj:k+1≤j) (hg:Gl X x) (hm:X.mg x=some (.ref C))
    (ha:PA X (e::es) t) (hdb:(x == ("__debug__":Str))=false:=by decide) (he:starEach (e::es) X.env=(false,eval e X.env)::starEach es X.env:=by rfl) (hpl:(backTo pos (starEach es X.env)).any (·.1)=false:=by rfl) :
    PE X (.Call (.Name x p) (e::es) [] pos) (tMakeX C sp Ex t):=by
  intro pins s σ H Q I h
  obtain⟨fd,F,hb⟩:=F.ex
  refine wpAny_Call_Name_kw (ld_glob I hg hm ?_ hdb)
  refine PySem.W.callWith_K (h₀:=X.base) I.ok.mod.kin M.kp (thn (ha pos pins s σ H _ I h) fun us s1 ⟨vs,H1,I1,r,q⟩=>⟨I1.kIn,?_⟩) he hpl
  exact run_makeX R M F (hr.mono hj) hb I1 r q
end
structure OCls (K:PySem.W.Frag) (C:Addr):Prop where
  cl:Cls K C
  ca:PySem.W.findIn K (.ref C) "__class__"=some (some (.builtin "object.__class__"))
  cg:PySem.W.specialIn K (.builtin "object.__class__") "__get__"=some (some (.builtin "getset_descriptor.__get__"))
  ct:PySem.W.takesIn K (.builtin "object.__class__")=some true
  mo:PySem.W.mroIn K C (.type "object")=some true
section
variable {X:Cx}
theorem call_sum (hh:X.calm=true):CallR X (.builtin "sum") (fun xs H Q=>∃(p:Addr) (ns:List Int),xs=[.ref p]∧(SqL X.K H p (ns.map V.int)∨SqT X.K H p (ns.map V.int))∧Q (.int ns.sum) H):=by
  intro pins s σ H xs us Q I r h
  obtain⟨p,ns,rfl,hq,q⟩:=h
  obtain⟨u,rfl,rx⟩:=vals1 r
  cases rx
  rcases hq with hq | hq
  · obtain⟨its,r',pl,hz⟩:=I.list hq
    have hi:=intsAre_of r'
    obtain⟨xs,hx⟩:=hi.allInts.items
    have hl':s.heap.IsList p (intItems xs):=hx▸pl.isList
    refine sum_intListG (I.ok.hd hh) hl' fun h' tk t' hk=>?_
    have e1:ns=xs.toList.map (·.1):=by
      rw[← nums_intItems,← hx]
      exact(show numsOf its.toArray.toList=ns from hi.numsOf).symm
    have e2:preSum (numAt xs) xs.size=ns.sum:=by
      rw[preSum_eq,List.take_of_length_le (by simp),e1]
    rw[e2]
    exact⟨.int ns.sum,H,I.kept (t':=tk) hk,⟨_,rfl⟩,q⟩
  · obtain⟨its,r',pl,hz⟩:=I.tuple hq
    have hi:=intsAre_of r'
    obtain⟨xs,hx⟩:=hi.allInts.items
    have hl':s.heap.IsTuple p (intItems xs):=hx▸pl
    refine PySem.W.ktm_sumG (I.ok.hd hh) hl' fun h' tk t' hk=>?_
    have e1:ns=xs.toList.map (·.1):=by
      rw[← nums_intItems,← hx]
      exact(show numsOf its.toArray.toList=ns from hi.numsOf).symm
    have e2:preSum (numAt xs) xs.size=ns.sum:=by
      rw[preSum_eq,List.take_of_length_le (by simp),e1]
    rw[e2]
    exact⟨.int ns.sum,H,I.kept (t':=tk) hk,⟨_,rfl⟩,q⟩
theorem boolsAre_of {bs:List Bool}:∀{us:List Value},Vals (bs.map V.bl) us→LSm.BoolsAre us bs:=by
  induction bs with
  | nil=>intro us h;cases h;exact .nil
  | cons b bs ih =>
    intro us h
    cases h with
    | cons r t=>cases r;exact .cons b (ih t)
theorem call_all (hh:X.calm=true):CallR X (.builtin "all") (fun xs H Q=>∃(p:Addr) (bs:List Bool),xs=[.ref p]∧SqL X.K H p (bs.map V.bl)∧Q (.bl (bs.all id)) H):=by
  intro pins s σ H xs us Q I r h
  obtain⟨p,bs,rfl,hq,q⟩:=h
  obtain⟨u,rfl,rx⟩:=vals1 r
  cases rx
  obtain⟨its,r',pl,hz⟩:=I.list hq
  have hb:=boolsAre_of r'
  have hl:=pl.isList
  have hlt:p<s.heap.objs.size:=by obtain⟨_,e,_⟩:=hl;exact Heap.lt_size e
  refine call_all_walk (wpAny_pyIter_list hl ?_)
  refine⟨s.heap.objs.size,[s.heap.objs.size,p],[s.heap.objs.size],its.toArray.size,_,_,fun i=>(bs[i]?).getD true,rfl,Walks.list (A:=X.A.in1) (I.ok.hd hh) _ p (Nat.ne_of_lt hlt) its.toArray,
    ⟨⟨_,Heap.get?_push_size _ rfl,rfl,rfl⟩,hl.push _⟩,fun i v s' Q' E' hP hQ=>?_,fun h' tk hk=>?_⟩
  · obtain⟨b,e,rfl⟩:=hb.get i v (by simpa using hP)
    simp only[e,Option.getD_some] at hQ
    exact wpAny_truthy_bool hQ
  · have e:((List.range its.toArray.size).all fun i=>(bs[i]?).getD true)=bs.all id:=by
      rw[List.size_toArray,hb.length];exact LSm.range_all bs
    rw[e]
    exact⟨.bl _,H,I.kept (t':=tk) (LSm.kept_iter hk),rfl,q⟩
theorem call_any (hh:X.calm=true):CallR X (.builtin "any") (fun xs H Q=>∃(p:Addr) (bs:List Bool),xs=[.ref p]∧SqL X.K H p (bs.map V.bl)∧Q (.bl (bs.any id)) H):=by
  intro pins s σ H xs us Q I r h
  obtain⟨p,bs,rfl,hq,q⟩:=h
  obtain⟨u,rfl,rx⟩:=vals1 r
  cases rx
  obtain⟨its,r',pl,hz⟩:=I.list hq
  have hb:=boolsAre_of r'
  have hl:=pl.isList
  have hlt:p<s.heap.objs.size:=by obtain⟨_,e,_⟩:=hl;exact Heap.lt_size e
  refine call_any_walk (wpAny_pyIter_list hl ?_)
  refine⟨s.heap.objs.size,[s.heap.objs.size,p],[s.heap.objs.size],its.toArray.size,_,_,fun i=>(bs[i]?).getD false,rfl,Walks.list (A:=X.A.in1) (I.ok.hd hh) _ p (Nat.ne_of_lt hlt) its.toArray,
    ⟨⟨_,Heap.get?_push_size _ rfl,rfl,rfl⟩,hl.push _⟩,fun i v s' Q' E' hP hQ=>?_,fun h' tk hk=>?_⟩
  · obtain⟨b,e,rfl⟩:=hb.get i v (by simpa using hP)
    simp only[e,Option.getD_some] at hQ
    exact wpAny_truthy_bool hQ
  · have e:((List.range its.toArray.size).any fun i=>(bs[i]?).getD false)=bs.any id:=by
      rw[List.size_toArray,hb.length];exact LSm.range_any bs
    rw[e]
    exact⟨.bl _,H,I.kept (t':=tk) (LSm.kept_iter hk),rfl,q⟩
theorem bt_sum:bootBuiltins "sum"=some (.builtin "sum"):=by decide +kernel
theorem bt_all:bootBuiltins "all"=some (.builtin "all"):=by decide +kernel
theorem bt_any:bootBuiltins "any"=some (.builtin "any"):=by decide +kernel
def rIndexT (K:PySem.W.Frag):V→List V→Hp→VK→Prop:=fun x vs H Q=>∃(p:Addr) (ns:List Int) (i:Int) (j:Nat),x = .ref p∧vs=[.int i]∧SqT K H p (ns.map V.int)∧ns[j]?=some i∧(∀m,m<j→ns[m]?≠some i)∧Q (.int (j:Nat)) H
def eqI (i:Int) (u:Value):Bool:=match u with
  | .int k _=>k == i
  | _=>false
theorem mt_appendR:MtR X "list.append" rAppend:=mt_append
theorem mt_index:MtR X "tuple.index" (rIndexT X.K):=by
  intro pins s σ H x vs v us Q I rx rv h
  obtain⟨p,ns,i,j,rfl,rfl,hq,hj,hno,q⟩:=h
  cases rx
  obtain⟨u,rfl,ru⟩:=rv.one
  obtain⟨t,rfl⟩:=(show ∃t,u=Value.int i t from ru)
  obtain⟨its,r',pl,hz⟩:=I.tuple hq
  have hi:=intsAre_of r'
  obtain⟨⟨oc,od,odt,osl⟩,h1,h2,n,h3⟩:=id pl
  dsimp only at h2 h3
  subst h2 h3
  have at_:∀(m:Nat) (k:Int),ns[m]?=some k→∃t,its[m]?=some (.int k t):=fun m k hm=>by
    obtain⟨u,hu,ru⟩:=r'.get (i:=m) (x:=.int k) (by rw[List.getElem?_map,hm];rfl)
    obtain⟨t,rfl⟩:=(show ∃t,u=Value.int k t from ru)
    exact⟨t,hu⟩
  have hl:=r'.length
  rw[List.length_map] at hl
  obtain⟨t1,ht1⟩:=at_ j i hj
  have hjl:j<its.length:=by
    rcases Nat.lt_or_ge j its.length with z | z
    · exact z
    · rw[List.getElem?_eq_none z] at ht1;cases ht1
  refine call_meets F.slot_tuple_index ⟨_,h1,rfl⟩ F.entry_tuple_index (F.args_tuple_index_2 _ _) (SeqAt.tuple_indexAt p its.toArray n od osl (.int i t) (eqI i) j (by simpa using hjl) ?_ fun m hm hmj=>?_) ⟨h1,fun y hy=>?_,?_⟩
  · have e:its.toArray[j]'(by simpa using hjl) = .int i t1:=by
      have:=List.getElem?_eq_getElem hjl
      rw[ht1] at this
      simpa using (Option.some.inj this).symm
    rw[e]
    show(i == i)=true
    simp
  · have hml:m<its.length:=by simpa using hm
    have hmn:m<ns.length:=by omega
    obtain⟨t2,ht2⟩:=at_ m _ (List.getElem?_eq_getElem hmn)
    have e:its.toArray[m]'hm = .int ns[m] t2:=by
      have:=List.getElem?_eq_getElem hml
      rw[ht2] at this
      simpa using (Option.some.inj this).symm
    rw[e]
    show(ns[m] == i)=false
    rw[beq_eq_false_iff_ne]
    intro z
    exact hno m hmj (by rw[List.getElem?_eq_getElem hmn,z])
  · have hy':y∈its:=by simpa using hy
    obtain⟨m,hm,e⟩:=List.getElem_of_mem hy'
    have hmn:m<ns.length:=by omega
    obtain⟨t2,ht2⟩:=at_ m _ (List.getElem?_eq_getElem hmn)
    rw[List.getElem?_eq_getElem hm,e] at ht2
    obtain rfl:y = .int ns[m] t2:=Option.some.inj ht2
    exact SeqAt.EqAt.int_int _ _ _ _
  · exact⟨.int (j:Nat),H,I.tok _,⟨_,rfl⟩,q⟩
mutual
inductive Dat (K:PySem.W.Frag) (H:Hp):V→PyData→Prop
  | int (i:Int):Dat K H (.int i) (.int i)
  | lst {p:Addr}{xs:List V}{ds:List PyData}:SqL K H p xs→DatAll K H xs ds→Dat K H (.ref p) (.list ds)
  | tup {p:Addr}{xs:List V}{ds:List PyData}:SqT K H p xs→DatAll K H xs ds→Dat K H (.ref p) (.tuple ds)
inductive DatAll (K:PySem.W.Frag) (H:Hp):List V→List PyData→Prop
  | nil:DatAll K H [] []
  | cons {x:V}{d:PyData}{xs:List V}{ds:List PyData}:Dat K H x d→DatAll K H xs ds→DatAll K H (x::xs) (d::ds)
end
def rEqD (K:PySem.W.Frag) (b:Bool):R2:=fun x y H Q=>∃d,Dat K H x d∧Dat K H y d∧d.depth≤64∧Q (.bl b) H
end
def iSeq (K:PySem.W.Frag) (tl:TE):TI:=fun σ H R=>tl σ H fun x H1=>∃a,x = .ref a∧(((∃xs,SqL K H1 a xs)∧R (Itl K a) H1)∨((∃xs,SqT K H1 a xs)∧R (Itt K a) H1))
theorem getItem_tuple_all {prog:Program}{w:World}{A:Around}{E:Value→Shared→Prop}{s:Shared}{t sl:Addr}{items:Array Value}{vl vu:Value}{lo hi:Option Int}{Q:Value→Shared→Prop} (ht:IsTup s.heap t items) (hs:s.heap.IsSliceOf sl vl vu .none) (pl:IsPart vl lo) (pu:IsPart vu hi)
    (h0:HT.sIx items.size 0 lo=0) (h1:HT.sIx items.size items.size hi=items.size)
    (h:Q (.ref t) s):wpAny (model prog w) A (getItem (.ref t) (.ref sl)) Q E s:=by
  obtain⟨os,hos,hcs,hds⟩:=id hs
  have hTs:s.TypeIs (.ref sl) "slice":=⟨os,hos,hcs⟩
  unfold getItem
  try with_reducible refine wpAny_holding ?_
  first | refine wpAny_bind (wpAny_pure ?_) | skip
  refine wpAny_bind (wpAny_sequenceKey ht.typeIs (by decide) ?_)
  refine wpAny_bind (wpAny_callSpecial?_slot (name:=Str.ofString "__getitem__") ht.typeIs PyProof.Rows.slot_tuple_getitem
    (wpAny_call_entry PyProof.Rows.slot_tuple_getitem ht.typeIs entry_tuple_getitem ?_ (args_tuple_getitem _ _)))
  show wpAny _ _ (Builtin.Tuple.tupleItemsOf (.ref t) >>= _) _ _ s
  refine wpAny_bind (tupleItemsOf_ ht ?_)
  refine wpAny_bind (wpAny_typeOf hTs ?_)
  rw[if_pos (by decide)]
  refine wpAny_bind (HT.sliceApplied_gen hs pl pu ?_)
  have hy:(((HT.sIx items.size 0 lo:Nat):Int) == 0&&(1:Int) == 1&&(HT.sIx items.size items.size hi-HT.sIx items.size 0 lo) == items.size)=true:=by
    rw[h0,h1];simp
  show wpAny _ _ (if (((HT.sIx items.size 0 lo:Nat):Int) == 0&&(1:Int) == 1&&(HT.sIx items.size items.size hi-HT.sIx items.size 0 lo) == items.size)=true then _ else _) _ _ s
  rw[if_pos hy]
  refine wpAny_bind (m:=Builtin.Tuple.tupleIsExact (.ref t)) ?_
  unfold Builtin.Tuple.tupleIsExact
  refine wpAny_bind (wpAny_typeOf ht.typeIs (wpAny_pure ?_))
  rw[if_pos (by decide)]
  first
    | exact wpAny_bind (wpAny_rule (wpAny_pure ⟨_,rfl,wpAny_pure h⟩))
    | exact wpAny_bind (wpAny_rule (wpAny_bind (wpAny_pure (wpAny_pure ⟨_,rfl,wpAny_pure h⟩))))
def rSlA (K:PySem.W.Frag):V→Option Int→Option Int→Hp→VK→Prop:=fun x lo hi H Q=>∃a xs,x = .ref a∧SqT K H a xs∧∀p H',Same H H'→SqT K H' p (cutV xs lo hi)→Q (.ref p) H'
theorem sl_tupA {X:Cx}:SlR X (rSlA X.K):=by
  intro pins s σ H x v vl vu lo hi sl Q I rx hs pl pu h
  obtain⟨a,xs,rfl,hx,q⟩:=h
  by_cases hw:HT.sIx xs.length 0 lo=0∧HT.sIx xs.length xs.length hi=xs.length
  · cases rx
    obtain⟨its,r,ht,hz⟩:=I.tuple hx
    have hlen:its.toArray.size=xs.length:=by rw[List.size_toArray];exact r.length.symm
    refine⟨"tuple",_,PyProof.Rows.slot_tuple_getitem.lookup,ht.typeIs,?_⟩
    refine getItem_tuple_all ht hs pl pu (by rw[hlen];exact hw.1) (by rw[hlen];exact hw.2) ⟨.ref a,H,I,rfl,q a H (.refl H) ?_⟩
    unfold cutV
    rw[hw.1,hw.2,List.drop_zero,Nat.sub_zero,List.take_length]
    exact hx
  · exact sl_tup pins s σ H (.ref a) v vl vu lo hi sl Q I rx hs pl pu ⟨a,xs,rfl,hx,hw,fun p hp=>q p _ (.upd_new hp) (SqT.of upd_same)⟩
section
variable {K:PySem.W.Frag}{a:Addr}{xs:List V}{σ0:St}{H1:Hp}{i0:Nat}{c:TT}{te:TE}{Q:Addr→Hp→Prop}
theorem comp_lst (f:Nat→V→Option V) (hq:SqL K H1 a xs) (hn:xs.length≤sizeLine)
    (step:∀(i:Nat) (x:V) (H2:Hp) (k:VK) (k0:Hp→Prop),Same H1 H2→xs[i]?=some x→(∀y,f i x=some y→∀H3,Same H2 H3→k y H3)→(f i x=none→∀H3,Same H2 H3→k0 H3) →
      c (σ0.set i0 (some x)) H2 fun b H4=>if b=true then te (σ0.set i0 (some x)) H4 k else k0 H4)
    (h:∀D H2,H1 D=none→Same H1 H2→H2 D=some (.lst ((List.range xs.length).filterMap fun i=>(xs[i]?).bind (f i)))→Q D H2) :
    ∀D,H1 D=none→∃W:Nat→Nat→St→Hp→Prop,(∃m,W 0 m σ0 (upd H1 D (.lst [])))∧∀i m σ1 H2,W i m σ1 H2 →
      ((Itl K a).stop i H2∧Q D H2)∨((Itl K a).go i H2∧∃N:St→Hp→Prop,(∀σ' H',N σ' H'→∃m',m'<m∧W (i+1) m' σ' H') ∧
        ∀x H',(Itl K a).yld i H2 x H'→gName i0 x σ1 H' fun σ2 H3=>c σ2 H3 fun b H4=>if b=true then te σ2 H4 fun y H5=>∃xs,H5 D=some (.lst xs)∧xs.length<sizeLine∧N σ2 (upd H5 D (.lst (xs++[y]))) else N σ2 H4):=by
  intro D hD
  refine⟨fun i m σ1 H2=>σ1.set i0 none=σ0.set i0 none∧Same H1 H2∧H2 D=some (.lst ((List.range i).filterMap fun i=>(xs[i]?).bind (f i)))∧i≤xs.length∧m=xs.length-i,⟨xs.length,rfl,.upd_new hD,upd_same,Nat.zero_le _,rfl⟩,?_⟩
  rintro i m σ1 H2 ⟨hσ,hs,hd,hi,rfl⟩
  have hset:∀v:Option V,σ1.set i0 v=σ0.set i0 v:=fun v=>by
    have z:=congrArg (fun l=>List.set l i0 v) hσ
    simpa using z
  rcases Nat.lt_or_ge i xs.length with hlt | hge
  · right
    refine⟨⟨xs,xs[i],hs.seq hq,by simp[hlt]⟩,fun σ' H'=>σ'.set i0 none=σ0.set i0 none∧Same H1 H'∧H' D=some (.lst ((List.range (i+1)).filterMap fun i=>(xs[i]?).bind (f i))),fun σ' H' ⟨a,b,c⟩=>⟨xs.length-(i+1),by omega,a,b,c,hlt,rfl⟩,?_⟩
    rintro x H' ⟨rfl,hx⟩
    have hx:=hx xs (hs.seq hq)
    show c (σ1.set i0 (some x)) _ _
    rw[hset]
    refine step i x _ _ _ hs hx (fun y hy H3 hs3=>⟨_,hs3 _ _ hd,?_,?_,?_,?_⟩) fun hno H3 hs3=>⟨?_,hs.trans hs3,?_⟩
    · refine Nat.lt_of_le_of_lt (List.length_filterMap_le _ _) ?_
      rw[List.length_range]
      omega
    · simp
    · refine(hs.trans hs3).upd_ne' hD
    · rw[upd_same,List.range_succ,List.filterMap_append]
      simp[hx,hy]
    · simp
    · rw[hs3 _ _ hd,List.range_succ,List.filterMap_append]
      simp[hx,hno]
  · left
    obtain rfl:i=xs.length:=Nat.le_antisymm hi hge
    exact⟨⟨xs,hs.seq hq,Nat.le_refl _⟩,h D _ hD hs hd⟩
end
end L2
set_option Elab.async false
set_option linter.all false
set_option maxRecDepth 100000
namespace L2
open PySem PySem.Spec PyProof.Rows
section
variable {X:Cx}
def rIxN (K:PySem.W.Frag):V→V→Hp→VK→Prop:=fun x y H Q=>∃(p:Addr) (xs:List V) (j:Nat) (v:V),x = .ref p∧y = .int (j:Int)∧SqL K H p xs∧xs[j]?=some v∧Q v H
end
end L2
set_option Elab.async false
set_option linter.all false
set_option maxRecDepth 100000
namespace L2
open PySem PySem.Spec PyProof.Rows
section
variable {K:PySem.W.Frag}{lo:Int}{n:Nat}{σ0:St}{H1:Hp}{i0:Nat}{c:TT}{te:TE}{Q:Addr→Hp→Prop}
theorem comp_rng (f:Nat→Option V) (hn:n≤sizeLine)
    (step:∀(i:Nat) (H2:Hp) (k:VK) (k0:Hp→Prop),Same H1 H2→i<n→(∀y,f i=some y→∀H3,Same H2 H3→k y H3)→(f i=none→∀H3,Same H2 H3→k0 H3) →
      c (σ0.set i0 (some (.int (lo+(i:Int))))) H2 fun b H4=>if b=true then te (σ0.set i0 (some (.int (lo+(i:Int))))) H4 k else k0 H4)
    (h:∀D H2,H1 D=none→Same H1 H2→H2 D=some (.lst ((List.range n).filterMap f))→Q D H2) :
    ∀D,H1 D=none→∃W:Nat→Nat→St→Hp→Prop,(∃m,W 0 m σ0 (upd H1 D (.lst [])))∧∀i m σ1 H2,W i m σ1 H2 →
      ((Itr lo n).stop i H2∧Q D H2)∨((Itr lo n).go i H2∧∃N:St→Hp→Prop,(∀σ' H',N σ' H'→∃m',m'<m∧W (i+1) m' σ' H') ∧
        ∀x H',(Itr lo n).yld i H2 x H'→gName i0 x σ1 H' fun σ2 H3=>c σ2 H3 fun b H4=>if b=true then te σ2 H4 fun y H5=>∃xs,H5 D=some (.lst xs)∧xs.length<sizeLine∧N σ2 (upd H5 D (.lst (xs++[y]))) else N σ2 H4):=by
  intro D hD
  refine⟨fun i m σ1 H2=>σ1.set i0 none=σ0.set i0 none∧Same H1 H2∧H2 D=some (.lst ((List.range i).filterMap f))∧i≤n∧m=n-i,⟨n,rfl,.upd_new hD,upd_same,Nat.zero_le _,rfl⟩,?_⟩
  rintro i m σ1 H2 ⟨hσ,hs,hd,hi,rfl⟩
  have hset:∀v:Option V,σ1.set i0 v=σ0.set i0 v:=fun v=>by
    have z:=congrArg (fun l=>List.set l i0 v) hσ
    simpa using z
  rcases Nat.lt_or_ge i n with hlt | hge
  · right
    refine⟨hlt,fun σ' H'=>σ'.set i0 none=σ0.set i0 none∧Same H1 H'∧H' D=some (.lst ((List.range (i+1)).filterMap f)),fun σ' H' ⟨a,b,c⟩=>⟨n-(i+1),by omega,a,b,c,hlt,rfl⟩,?_⟩
    rintro x H' ⟨rfl,rfl⟩
    show c (σ1.set i0 (some (.int (lo+(i:Int))))) _ _
    rw[hset]
    refine step i _ _ _ hs hlt (fun y hy H3 hs3=>⟨_,hs3 _ _ hd,?_,?_,?_,?_⟩) fun hno H3 hs3=>⟨?_,hs.trans hs3,?_⟩
    · refine Nat.lt_of_le_of_lt (List.length_filterMap_le _ _) ?_
      rw[List.length_range]
      omega
    · simp
    · exact(hs.trans hs3).upd_ne' hD
    · rw[upd_same,List.range_succ,List.filterMap_append]
      simp[hy]
    · simp
    · rw[hs3 _ _ hd,List.range_succ,List.filterMap_append]
      simp[hno]
  · left
    obtain rfl:i=n:=Nat.le_antisymm hi hge
    exact⟨Nat.le_refl _,h D _ hD hs hd⟩
end
section
variable {X:Cx}
theorem bt_str:bootBuiltins "str"=some (.type "str"):=by decide +kernel
end
end L2
set_option Elab.async false
set_option linter.all false
set_option maxRecDepth 100000
namespace L2
open PySem PySem.Spec PyProof.Rows
def Ite (K:PySem.W.Frag) (l:Addr):It :=
  ⟨fun i H=>∃xs x,SqL K H l xs∧xs[i]?=some x,
   fun i H v H'=>∃t x,v = .ref t∧H t=none∧H'=upd H t (.tup [.int (i:Int),x])∧∀xs,SqL K H l xs→xs[i]?=some x,
   fun i H=>∃xs,SqL K H l xs∧xs.length≤i⟩
def enumTn (e it l:Addr) (i:Nat) (h:Heap):Prop:=(∃old,IsEnum h e it (i:Int) old)∧h.IsListIter it l i
def iEnum (K:PySem.W.Frag) (ta:TA):TI:=fun σ H R=>ta σ H fun vs H1=>∃l,vs=[.ref l]∧(∃xs,SqL K H1 l xs)∧R (Ite K l) H1
theorem bt_enum:bootBuiltins "enumerate"=some (.type "enumerate"):=by decide +kernel
section
variable {K:PySem.W.Frag}{a a':Addr}{xs ys:List V}{σ0:St}{H1:Hp}{g:TG}{c:TT}{te:TE}{Q:Addr→Hp→Prop}
theorem comp_zipG (Ag:St→Prop) (f:Nat→V→V→Option V) (h0:Ag σ0) (hq:SqL K H1 a xs) (hq':SqL K H1 a' ys) (hlen:xs.length=ys.length) (hn:xs.length≤sizeLine)
    (step:∀(i:Nat) (x y:V) (t:Addr) (σ1:St) (H2:Hp) (k:St→VK) (k0:St→Hp→Prop),Ag σ1→Same H1 H2→xs[i]?=some x→ys[i]?=some y→H2 t=some (.tup [x,y])→(∀σ2 z,Ag σ2→f i x y=some z→∀H3,Same H2 H3→k σ2 z H3)→(∀σ2,Ag σ2→f i x y=none→∀H3,Same H2 H3→k0 σ2 H3) →
      g (.ref t) σ1 H2 fun σ2 H3=>c σ2 H3 fun b H4=>if b=true then te σ2 H4 (k σ2) else k0 σ2 H4)
    (h:∀D H2,H1 D=none→Same H1 H2→H2 D=some (.lst ((List.range xs.length).filterMap fun i=>(xs[i]?).bind fun x=>(ys[i]?).bind (f i x)))→Q D H2) :
    ∀D,H1 D=none→∃W:Nat→Nat→St→Hp→Prop,(∃m,W 0 m σ0 (upd H1 D (.lst [])))∧∀i m σ1 H2,W i m σ1 H2 →
      ((Itz K a a').stop i H2∧Q D H2)∨((Itz K a a').go i H2∧∃N:St→Hp→Prop,(∀σ' H',N σ' H'→∃m',m'<m∧W (i+1) m' σ' H') ∧
        ∀x H',(Itz K a a').yld i H2 x H'→g x σ1 H' fun σ2 H3=>c σ2 H3 fun b H4=>if b=true then te σ2 H4 fun y H5=>∃xs,H5 D=some (.lst xs)∧xs.length<sizeLine∧N σ2 (upd H5 D (.lst (xs++[y]))) else N σ2 H4):=by
  intro D hD
  refine⟨fun i m σ1 H2=>Ag σ1∧Same H1 H2∧H2 D=some (.lst ((List.range i).filterMap fun i=>(xs[i]?).bind fun x=>(ys[i]?).bind (f i x)))∧i≤xs.length∧m=xs.length-i,⟨xs.length,h0,.upd_new hD,upd_same,Nat.zero_le _,rfl⟩,?_⟩
  rintro i m σ1 H2 ⟨hσ,hs,hd,hi,rfl⟩
  rcases Nat.lt_or_ge i xs.length with hlt | hge
  · right
    have hlt':i<ys.length:=hlen▸hlt
    refine⟨⟨xs,ys,xs[i],ys[i],hs.seq hq,hs.seq hq',by simp[hlt],by simp[hlt']⟩,fun σ' H'=>Ag σ'∧Same H1 H'∧H' D=some (.lst ((List.range (i+1)).filterMap fun i=>(xs[i]?).bind fun x=>(ys[i]?).bind (f i x))),fun σ' H' ⟨a,b,c⟩=>⟨xs.length-(i+1),by omega,a,b,c,hlt,rfl⟩,?_⟩
    rintro v H' ⟨t,x,y,rfl,ht,rfl,hx,hy⟩
    have hx:=hx xs (hs.seq hq)
    have hy:=hy ys (hs.seq hq')
    have hst:Same H1 (upd H2 t (.tup [x,y])):=hs.trans (.upd_new ht)
    have hdt:=Same.upd_new (o:=.tup [x,y]) ht _ _ hd
    refine step i x y t σ1 _ (fun σ2 y H5=>∃xs,H5 D=some (.lst xs)∧xs.length<sizeLine∧_) _ hσ hst hx hy upd_same (fun σ2 z a2 hz H3 hs3=>⟨_,hs3 _ _ hdt,?_,a2,?_,?_⟩) fun σ2 a2 hno H3 hs3=>⟨a2,hst.trans hs3,?_⟩
    · refine Nat.lt_of_le_of_lt (List.length_filterMap_le _ _) ?_
      rw[List.length_range]
      omega
    · exact(hst.trans hs3).upd_ne' hD
    · rw[upd_same,List.range_succ,List.filterMap_append]
      simp[hx,hy,hz]
    · rw[hs3 _ _ hdt,List.range_succ,List.filterMap_append]
      simp[hx,hy,hno]
  · left
    obtain rfl:i=xs.length:=Nat.le_antisymm hi hge
    exact⟨⟨xs,ys,hs.seq hq,hs.seq hq',.inl (Nat.le_refl _)⟩,h D _ hD hs hd⟩
end
end L2
set_option Elab.async false
set_option linter.all false
set_option maxRecDepth 100000
namespace L2
open PySem PySem.Spec PyProof.Rows
section
variable {X:Cx}
end
section
variable {K:PySem.W.Frag}{a:Addr}{xs:List V}{lo:Int}{n:Nat}{σ0:St}{H1:Hp}{i0:Nat}{c:TT}{te:TE}{Q:Addr→Hp→Prop}
def SameT (H H':Hp):Prop:=∀b xs,H b=some (.tup xs)→H' b=some (.tup xs)
end
end L2
set_option Elab.async false
set_option linter.all false
set_option maxRecDepth 100000
namespace L2
open PySem PySem.Spec PyProof.Rows
def Itc (lo c:Int) (n:Nat):It:=⟨fun i _=>i<n,fun i H x H'=>H'=H∧x = .int (lo+(i:Int)*c),fun i _=>n≤i⟩
def half (lo hi:Int):Nat:=((hi-lo+1)/2).toNat
section
variable {X:Cx}{tg:Expr}
def iRng3 (ta:TA):TI:=fun σ H R=>ta σ H fun vs H1=>∃i j:Int,vs=[.int i,.int j,.int 2]∧(-(2^62)≤i∧i<2^62∧-(2^62)≤j∧j<2^62)∧R (Itc i 2 (half i j)) H1
end
def pickV (xs:List V) (k:Int):List V:=(sliceRange (sliceBounds none none (some k) xs.length).1 (sliceBounds none none (some k) xs.length).2.1 (sliceBounds none none (some k) xs.length).2.2).filterMap (xs[·]?)
section
variable {X:Cx}{e c:Expr}{te:TE}{ts:TO}{pos p2:Pos}
def tSlS (K:PySem.W.Frag) (te:TE) (ts:TO):TE:=fun σ H Q=>te σ H fun x H1=>ts σ H1 fun o H2=>∃a xs k,x = .ref a∧o=some k∧k≠0∧SqL K H2 a xs∧(pickV xs k).length≤sizeLine∧∀p,H2 p=none→Q (.ref p) (upd H2 p (.lst (pickV xs k)))
end
end L2
set_option Elab.async false
set_option linter.all false
set_option maxRecDepth 100000
namespace L2
open PySem PySem.Spec PyProof.Rows
def preS (h:Heap) (vs:List Value):Heap:=((h.push (seqObj "list" #[] 0)).update h.objs.size (Obj.mapSeq (· ++ vs.toArray))).push (seqObj "list" vs.toArray 0)
section
variable {X:Cx}
def rangeV (n:Nat):List V:=(List.range n).map fun(i:Nat)=>V.int (i:Int)
def tLR (ta:TA):TE:=fun σ H Q=>ta σ H fun vs H1=>∃n:Nat,vs=[.int (n:Int)]∧n≤1000∧∀p,H1 p=none→Q (.ref p) (upd H1 p (.lst (rangeV n)))
end
end L2
set_option Elab.async false
set_option linter.all false
set_option maxRecDepth 100000
namespace L2
open PySem PySem.Spec PyProof.Rows
section
variable {X:Cx}
mutual
inductive DatX (K:PySem.W.Frag) (H:Hp):V→PyData→Prop
  | int (i:Int):DatX K H (.int i) (.int i)
  | non:DatX K H .non .none
  | bl (b:Bool):DatX K H (.bl b) (.bool b)
  | str (x:Str):PyData.strOk x=true→DatX K H (.str x) (.str x)
  | lst {p:Addr}{xs:List V}{ds:List PyData}:SqL K H p xs→DatXAll K H xs ds→DatX K H (.ref p) (.list ds)
  | tup {p:Addr}{xs:List V}{ds:List PyData}:SqT K H p xs→DatXAll K H xs ds→DatX K H (.ref p) (.tuple ds)
inductive DatXAll (K:PySem.W.Frag) (H:Hp):List V→List PyData→Prop
  | nil:DatXAll K H [] []
  | cons {x:V}{d:PyData}{xs:List V}{ds:List PyData}:DatX K H x d→DatXAll K H xs ds→DatXAll K H (x::xs) (d::ds)
end
mutual
theorem DatX.reads (I:Inv X pins σ H s):∀{v:V}{d:PyData}{u:Value},DatX X.K H v d→RelV v u→∃as,Reads s.heap u d as
  | _,_,u,.int i,r=>by obtain⟨t,rfl⟩:=(show ∃t,u=Value.int i t from r);exact⟨_,.int i t⟩
  | _,_,u,.non,r=>by obtain rfl:u=Value.none:=r;exact⟨_,.none⟩
  | _,_,u,.bl b,r=>by obtain rfl:u=Value.bool b:=r;exact⟨_,.bool b⟩
  | _,_,u,.str x _,r=>by obtain⟨t,rfl⟩:=(show ∃t,u=Value.str x t from r);exact⟨_,.str x t⟩
  | _,_,u,.lst (p:=p) hq ha,r=>by
    obtain rfl:u = .ref p:=r
    obtain⟨its,r',pl,hz⟩:=I.list hq
    obtain⟨o,ho,hc,n,hd⟩:=pl.isList
    obtain⟨as,z⟩:=DatXAll.reads I ha r'
    exact⟨_,.list ho hc hd (by simpa using z)⟩
  | _,_,u,.tup (p:=p) hq ha,r=>by
    obtain rfl:u = .ref p:=r
    obtain⟨its,r',pl,hz⟩:=I.tuple hq
    obtain⟨o,ho,hc,n,hd⟩:=pl
    obtain⟨as,z⟩:=DatXAll.reads I ha r'
    exact⟨_,.tuple ho hc hd (by simpa using z)⟩
theorem DatXAll.reads (I:Inv X pins σ H s):∀{vs:List V}{ds:List PyData}{us:List Value},DatXAll X.K H vs ds→Vals vs us→∃as,ReadsAll s.heap us ds as
  | _,_,_,.nil,.nil=>⟨_,.nil⟩
  | _,_,_,.cons h t,.cons r rs=>by
    obtain⟨a1,z1⟩:=DatX.reads I h r
    obtain⟨a2,z2⟩:=DatXAll.reads I t rs
    exact⟨_,.cons z1 z2⟩
end
mutual
theorem DatX.lay {K:PySem.W.Frag}{H:Hp}:∀{v:V}{d:PyData},DatX K H v d→d.canLay0=true∧PyData.eqv d d=true
  | _,_,.int i=>⟨rfl,by simp[PyData.eqv]⟩
  | _,_,.non=>⟨rfl,by simp[PyData.eqv]⟩
  | _,_,.bl b=>⟨rfl,by simp[PyData.eqv]⟩
  | _,_,.str x h=>⟨h,by simp[PyData.eqv]⟩
  | _,_,.lst _ h=>by
    obtain⟨a,b⟩:=DatXAll.lay h
    exact⟨by simpa [PyData.canLay0] using a,by simpa [PyData.eqv] using b⟩
  | _,_,.tup _ h=>by
    obtain⟨a,b⟩:=DatXAll.lay h
    exact⟨by simpa [PyData.canLay0] using a,by simpa [PyData.eqv] using b⟩
theorem DatXAll.lay {K:PySem.W.Frag}{H:Hp}:∀{vs:List V}{ds:List PyData},DatXAll K H vs ds→PyData.canLayAll0 ds=true∧PyData.eqvAll ds ds=true
  | _,_,.nil=>⟨rfl,rfl⟩
  | _,_,.cons h t=>by
    obtain⟨a,b⟩:=DatX.lay h
    obtain⟨c,d⟩:=DatXAll.lay t
    exact⟨by simp[PyData.canLayAll0,a,c],by simp[PyData.eqvAll,b,d]⟩
end
mutual
theorem DatX.same {K:PySem.W.Frag}{H H':Hp} (s:Same H H'):∀{v:V}{d:PyData},DatX K H v d→DatX K H' v d
  | _,_,.int i=>.int i
  | _,_,.non=>.non
  | _,_,.bl b=>.bl b
  | _,_,.str x h=>.str x h
  | _,_,.lst q h=>.lst (s.seq q) (DatXAll.same s h)
  | _,_,.tup q h=>.tup (s.sqt q) (DatXAll.same s h)
theorem DatXAll.same {K:PySem.W.Frag}{H H':Hp} (s:Same H H'):∀{vs:List V}{ds:List PyData},DatXAll K H vs ds→DatXAll K H' vs ds
  | _,_,.nil=>.nil
  | _,_,.cons h t=>.cons (DatX.same s h) (DatXAll.same s t)
end
def rEqX (K:PySem.W.Frag) (b:Bool):R2:=fun x y H Q=>∃d,DatX K H x d∧DatX K H y d∧d.depth≤64∧Q (.bl b) H
theorem op_neX (hu:X.A.units+64<cLine):OpR X (compareOp .NotEq) (rEqX X.K false):=by
  intro pins s σ H x y v u Q I rx ry h
  obtain⟨d,h1,h2,hd,q⟩:=h
  obtain⟨as,r1⟩:=h1.reads I rx
  obtain⟨bs,r2⟩:=h2.reads I ry
  have sh:SeqAt.shaped d=true:=by
    show(d.canLay0&&decide (d.depth≤64))=true
    rw[h1.lay.1,decide_eq_true hd];rfl
  exact ne_dataH r1 r2 sh sh hu (by rw[h1.lay.2];exact⟨.bl false,H,I,rfl,q⟩)
end
end L2
set_option Elab.async false
set_option linter.all false
set_option maxRecDepth 100000
namespace L2
open PySem PySem.Spec PyProof.Rows
def rIndexL (K:PySem.W.Frag):V→List V→Hp→VK→Prop:=fun x vs H Q=>∃(p:Addr) (ns:List Int) (i:Int) (j:Nat),x = .ref p∧vs=[.int i]∧SqL K H p (ns.map V.int)∧ns[j]?=some i∧(∀m,m<j→ns[m]?≠some i)∧Q (.int (j:Nat)) H
section
variable {X:Cx}
end
end L2
set_option Elab.async false
set_option linter.all false
set_option maxRecDepth 100000
namespace L2
open PySem PySem.Spec PyProof.Rows
section
variable {X:Cx}
variable {o e:Expr}{es:List Expr}{to:TE}{t:TA}{name:Str}{apos cpos:Pos}{T id:String}{r:V→List V→Hp→VK→Prop}
end
end L2
set_option Elab.async false
set_option linter.all false
set_option maxRecDepth 100000
namespace L2
open PySem PySem.Spec PyProof.Rows
section
variable {A:Around}{prog:Program}{w:World}{E:Value→Shared→Prop}
end
section
variable {X:Cx}{pos:Pos}
def gLst (K:PySem.W.Frag) (n:Nat) (t:TGs):TG:=fun v σ H Q=>∃a xs,v = .ref a∧SqL K H a xs∧xs.length=n∧t xs σ H Q
end
end L2
set_option Elab.async false
set_option linter.all false
set_option maxRecDepth 100000
namespace L2
open PySem PySem.Spec PyProof.Rows
section
variable {κ:Type} [DecidableEq κ]
def valV (kvs:List (κ×V)) (k:κ):Option V:=(kvs.find? fun kv=>decide (kv.1=k)).map (·.2)
def putK (kvs:List (κ×V)) (k:κ) (v:V):List (κ×V) :=
  if (kvs.any fun kv=>decide (kv.1=k))=true then kvs.map (fun kv=>if kv.1=k then (kv.1,v) else kv) else kvs++[(k,v)]
def dropK (kvs:List (κ×V)) (k:κ):List (κ×V):=kvs.filter fun kv=>decide (kv.1≠k)
end
abbrev KT (H:Hp):List (List Key×V)→List (List Key×Addr×Value)→Prop:=Paired fun p q=>p.1=q.1∧H q.2.1=some (.tup (p.1.map kV))∧RelV p.2 q.2.2
section
variable {P:Program}{w:World}{H:Hp}{h:Heap}{a:Addr}
end
def DGet (H:Hp) (a:Addr) (y:V) (r:Option V):Prop :=
  (∃kvs k,Rd H a (.dK kvs)∧y=kV k∧r=valV kvs k)∨∃kvs k b,Rd H a (.dT kvs)∧y = .ref b∧H b=some (.tup (k.map kV))∧r=valV kvs k
def DPut (H:Hp) (a:Addr) (y v:V) (H':Hp):Prop :=
  (∃kvs k,H a=some (.dK kvs)∧y=kV k∧kvs.length<sizeLine∧H'=upd H a (.dK (putK kvs k v))) ∨
  ∃kvs k b,H a=some (.dT kvs)∧y = .ref b∧H b=some (.tup (k.map kV))∧kvs.length<sizeLine∧H'=upd H a (.dT (putK kvs k v))
section
variable {X:Cx}{pins:List (Addr×Obj)}{σ:St}{H:Hp}{s:Shared}{a:Addr}{y v:V}{u r:Value}{o:Option V}{A:Around}{E:Value→Shared→Prop}
end
section
variable {X:Cx}{pins:List (Addr×Obj)}{σ:St}{H:Hp}{s:Shared}{a:Addr}{kvs:List (Key×V)}{k:Key}{u:Value}{A:Around}{E:Value→Shared→Prop}
end
def NoSl (i:Expr):Prop:=∀ov iv,subscripted i false ov iv=operate [ov,iv] (getItem ov iv)
def tDGet (td ty:TE):TE:=fun σ H Q=>td σ H fun x H1=>ty σ H1 fun y H2=>∃a v,x = .ref a∧DGet H2 a y (some v)∧Q v H2
def tDIn (ty td:TE):TE:=fun σ H Q=>ty σ H fun y H1=>td σ H1 fun x H2=>∃a o,x = .ref a∧DGet H2 a y o∧Q (.bl o.isSome) H2
def tDNotIn (ty td:TE):TE:=fun σ H Q=>ty σ H fun y H1=>td σ H1 fun x H2=>∃a o,x = .ref a∧DGet H2 a y o∧Q (.bl (!o.isSome)) H2
def sDPut (td ty tv:TE):TS:=fun D σ H=>tv σ H fun v H1=>td σ H1 fun x H2=>ty σ H2 fun y H3=>∃a H4,x = .ref a∧DPut H3 a y v H4∧D.nx σ H4
def sDAug (td ty tv:TE) (rd:V→V→Hp→VK→Prop):TS:=fun D σ H=>td σ H fun x H1=>ty σ H1 fun y H2=>∃a v,x = .ref a∧DGet H2 a y (some v) ∧
  tv σ H2 fun y2 H3=>rd v y2 H3 fun z H4=>∃H5,DPut H4 a y z H5∧D.nx σ H5
def sDDel (td ty:TE):TS:=fun D σ H=>td σ H fun x H1=>ty σ H1 fun y H2=>∃a kvs k,x = .ref a∧H2 a=some (.dK kvs)∧y=kV k∧(valV kvs k).isSome=true∧D.nx σ (upd H2 a (.dK (dropK kvs k)))
section
variable {X:Cx}{o i e value:Expr}{pos pos' tpos:Pos}{td ty tv:TE}
end
end L2
namespace L2
open PySem PySem.Spec PyProof.Rows
section
variable {κ:Type} [DecidableEq κ]
end
end L2
namespace L2
open PySem PySem.Spec PyProof.Rows
def tDNewT:TE:=fun _ H Q=>∀p,H p=none→Q (.ref p) (upd H p (.dT []))
section
variable {X:Cx}{pos:Pos}
end
end L2
set_option Elab.async false
set_option linter.all false
set_option maxRecDepth 100000
namespace PySem.W
open PySem PySem.Calls PyProof.Rows
def KasT.Ok {α:Type} (n:Nat) (P:α→Prop):KasT α→Prop
  | .ret a=>P a
  | .ask i j k=>i<n∧j<n∧∀b,(k b).Ok n P
def KasT.run {α:Type} (lt:Nat→Nat→Bool):KasT α→α
  | .ret a=>a
  | .ask i j k=>(k (lt i j)).run lt
def KPm (n:Nat) (p:Array Nat):Prop:=p.toList.Perm (List.range n)
section
variable {prog:Program}{w:World}{A:Around}{E:Value→Shared→Prop}{s:Shared}
def preSort (h:Heap) (vs:List Value):Heap:=((h.push (seqObj "list" #[] 0)).update h.objs.size (Obj.mapSeq (· ++ vs.toArray))).push (seqObj "list" vs.toArray 0)
end
end PySem.W
namespace L2
open PySem PySem.Spec PyProof.Rows PySem.W
def intOf:V→Int
  | .int i=>i
  | _=>0
def tupOf (H:Hp) (a:Addr):List Int:=match H a with
  | some (.tup xs)=>xs.map intOf
  | _=>[]
section
variable {X:Cx}{pins:List (Addr×Obj)}{σ:St}{H:Hp}{s:Shared}
def TupI (H:Hp) (a:Addr):Prop:=∃(i:Int) (ns:List Int),H a=some (.tup ((i::ns).map V.int))
end
end L2
set_option Elab.async false
set_option linter.all false
set_option maxRecDepth 100000
namespace L2
open PySem PySem.Spec PyProof.Rows
section
variable {X:Cx}{a b c d:Expr}{ta tb tc td:TE}{pos:Pos}
def tChain3 (r r' r'':R2) (ta tb tc td:TE):TT:=fun σ H Q=>ta σ H fun x H1=>tb σ H1 fun y H2=>r x y H2 fun z H3=>∃k,z = .bl k ∧
  (if k=true then tc σ H3 fun w' H4=>r' y w' H4 fun z2 H5=>∃k2,z2 = .bl k2∧(if k2=true then td σ H5 fun v' H6=>r'' w' v' H6 fun z3 H7=>∃k3,z3 = .bl k3∧Q k3 H7 else Q false H5) else Q false H3)
end
section
variable {K:PySem.W.Frag}{a:Addr}{xs:List V}{σ0:St}{H1:Hp}{g:TG}{c:TT}{te:TE}{Q:Addr→Hp→Prop}
end
end L2
set_option Elab.async false
set_option linter.all false
set_option maxRecDepth 100000
namespace L2
open PySem PySem.Spec PyProof.Rows
section
variable {X:Cx}{Ex:XS}{o e:Expr}{es:List Expr}{ta:TE}{t:TA}{m:Str}{apos pos:Pos}{j k:Nat}
theorem pe_methXK (P:Program) (w:World) (K:PySem.W.Frag) (mg:Str→Option Value) (base:Heap) (h1:X.prog=P) (h2:X.w=w) (h3:X.K=K) (h4:X.mg=mg) (h5:X.base=base){pl:Sem Bool} (R:Pass X Ex) (he:PE X o ta) (hr:Room j X.A) (hj:k≤j) (ha:PA X (e::es) t)
    (hst:starEach (e::es) X.env=(false,eval e X.env)::starEach es X.env:=by rfl) (hpl:(backTo pos (starEach es X.env)).any (·.1)=false:=by rfl)
    (ht:eval (.Call (.Attribute o m apos) (e::es) [] pos) X.env=(do
      let v ← eval o X.env
      standAt apos.atName
      let (f,first) ← holding [v] (getMethod v m pl)
      callWith pos f first (backTo pos (starEach (e::es) X.env)) (backToKw pos (keywordEach [] X.env))):=by rfl) :
    PE X (.Call (.Attribute o m apos) (e::es) [] pos) (tMethX K (fun g sp=>∃ps,Md P w K mg base k ps sp g) m Ex ta t):=by
  subst h1 h2 h3 h4 h5
  exact pe_methX R he hr hj ha hst hpl ht
theorem pe_methX0K (P:Program) (w:World) (K:PySem.W.Frag) (mg:Str→Option Value) (base:Heap) (h1:X.prog=P) (h2:X.w=w) (h3:X.K=K) (h4:X.mg=mg) (h5:X.base=base){pl:Sem Bool} (R:Pass X Ex) (he:PE X o ta) (hr:Room j X.A) (hj:k≤j)
    (ht:eval (.Call (.Attribute o m apos) [] [] pos) X.env=(do
      let v ← eval o X.env
      standAt apos.atName
      let (f,first) ← holding [v] (getMethod v m pl)
      callWith pos f first (backTo pos (starEach [] X.env)) (backToKw pos (keywordEach [] X.env))):=by rfl) :
    PE X (.Call (.Attribute o m apos) [] [] pos) (tMethX K (fun g sp=>∃ps,Md P w K mg base k ps sp g) m Ex ta tNil):=by
  subst h1 h2 h3 h4 h5
  exact pe_methX0 R he hr hj ht
end
end L2
namespace L2
open PySem PySem.Spec PyProof.Rows
section
variable {X:Cx}
def rNeR (K:PySem.W.Frag) (b:Bool):R2:=fun x y H Q=>∃(l l':Addr) (as:List Addr),x = .ref l∧y = .ref l'∧SqL K H l (as.map V.ref)∧SqL K H l' (as.map V.ref)∧Q (.bl b) H
end
section
variable {K:PySem.W.Frag}{a:Addr}{xs:List V}{σ0:St}{H1:Hp}{i0:Nat}{c:TT}{te:TE}{Q:Addr→Hp→Prop}
end
end L2
set_option Elab.async false
set_option linter.all false
set_option maxRecDepth 100000
namespace L2
open PySem PySem.Spec PyProof.Rows
def blkC (X:Cx) (NB:List Str) (sc:Scope) (cl:List (Str×Addr)) (y0:Str) (s₃:Shared) (H₃:Hp) (fp:List Addr):Cx :=
  { X with N:=NB,s₀:=s₃,H₀:=H₃,env:=compEnvC sc ((y0,s₃.heap.objs.size+1)::cl) s₃.heap.objs.size X.env,outer:=X.stack,stack:=X.stack,ex:=fp,fn:=fun y=>y == y0,pn:=[],xe:=fun _ _=>False }
structure BlkC (X:Cx) (NB:List Str) (pick:List (Option Nat)) (sc:Scope) (cl:List (Str×Addr)) (y0:Str):Prop where
  clos:closureFor sc X.env=pure cl
  kind:sc.kind = .function
  cellsB:∀n,cellsFrom n sc.names cl=(y0,n)::cl
  pushB:∀h:Heap,pushCells h sc.names=h.push { cls:=.type "cell",data:=.cell none }
  names:∀y∈sc.names,y.2 = .local→sc.names.lookup y.1=some .local
  sub:AllLk X.env.cells cl
  has:∀n x,((relabel sc X.env).names.lookup x=some .cell∨(relabel sc X.env).names.lookup x=some .free)→∃c,((y0,n)::cl).lookup x=some c
  len:pick.length=NB.length
  got:∀(j i:Nat) (x:Str),pick[j]?=some (some i)→NB[j]?=some x→(X.N[i]?=some x∧(X.env.kindOf x=some .cell∨X.env.kindOf x=some .free)∧(relabel sc X.env).names.lookup x=some .cell)∧(x == y0)=false
def noneOf (y0:Str):List (Option Nat)→List Str→Bool
  | some _::p,x::r=>!(x == y0)&&noneOf y0 p r
  | none::p,_::r=>noneOf y0 p r
  | _,_=>true
section
variable {M:Model}{A:Around}{E:Value→Shared→Prop}{s:Shared}
end
section
variable {X:Cx}{NB:List Str}{pick:List (Option Nat)}{sc:Scope}{cl:List (Str×Addr)}{y0:Str}{pins:List (Addr×Obj)}{σ:St}{H:Hp}{s:Shared}{fp:List Addr}
end
section
variable {X:Cx}{NB:List Str}{pick:List (Option Nat)}{sc:Scope}{cl:List (Str×Addr)}{y0:Str}{elt target iter:Expr}{ifs:List Expr}{pos:Pos}{wi:TI}{g:TG}{c:TT}{te:TE}
end
end L2
set_option Elab.async false
set_option linter.all false
set_option maxRecDepth 100000
namespace HT
open PySem PyProof.Rows
def lexLe:List Int→List Int→Bool
  | [],[]=>true
  | [],_::_=>true
  | _::_,[]=>false
  | x::xs,y::ys=>if x=y then lexLe xs ys else decide (x≤y)
section
open PySem.SeqAt
open PySem.AutoSeq1 (wpAny_loadPart')
open PySem.MeetsSeq PySem.MeetsSeq2 PySem.MeetsSeq3
end
section
variable {prog:Program}{w:World}{A:Around}{E:Value→Shared→Prop}{s:Shared}
end
end HT
namespace L2
open PySem PySem.Spec PyProof.Rows
section
variable {X:Cx}
def rLeT (K:PySem.W.Frag):R2:=fun x y H Q=>∃a b ns ms,x = .ref a∧y = .ref b∧SqT K H a (ns.map V.int)∧SqT K H b (ms.map V.int)∧Q (.bl (HT.lexLe ns ms)) H
end
end L2
namespace L2
open PySem PySem.Spec PyProof.Rows
section
variable {X:Cx}
def rRemove:V→List V→Hp→VK→Prop:=fun x vs H Q=>∃(p:Addr) (ns:List Int) (i:Int) (j:Nat),x = .ref p∧vs=[.int i]∧H p=some (.lst (ns.map V.int))∧ns[j]?=some i∧(∀m,m<j→ns[m]?≠some i)∧Q .non (upd H p (.lst ((ns.eraseIdx j).map V.int)))
end
end L2
namespace PySem
section
variable {prog:Program}{w:World}{K:Type} [DecidableEq K] {knd:HeapKind prog w K}{A:Around}{E:Value→Shared→Prop}{s:Shared}
def HashesApart (knd:HeapKind prog w K) (xs:List (K×Addr×Value)):Prop:=(xs.map fun x=>knd.hash x.1).Nodup
end
section
variable {prog:Program}{w:World}{K:Type} [DecidableEq K] {knd:KeyKind prog w K}{A:Around}{E:Value→Shared→Prop}{s:Shared}
end
end PySem
namespace L2
open PySem PySem.Spec PyProof.Rows
def rDPopT:V→List V→Hp→VK→Prop:=fun x vs H Q=>∃(a b:Addr) (kvs:List (List Key×V)) (k:List Key) (v:V),x = .ref a∧vs=[.ref b]∧H a=some (.dT kvs)∧H b=some (.tup (k.map kV))∧valV kvs k=some v∧Q v (upd H a (.dT (dropK kvs k)))
section
variable {X:Cx}
end
def twoKeys:List (List Key):=[[.inl 0,.inl 1],[.inl 0,.inl 2],[.inl 0,.inl 3],[.inl 0,.inl 4],[.inl 0,.inl 5],[.inl 1,.inl 2],[.inl 1,.inl 3],[.inl 1,.inl 4],[.inl 1,.inl 5],[.inl 2,.inl 3],[.inl 2,.inl 4],[.inl 2,.inl 5],[.inl 3,.inl 4],[.inl 3,.inl 5],[.inl 4,.inl 5]]
def hsh2 (k:List Key):Int:=reduceHash (Builtin.Tuple.tupleHashOf (k.map fun | .inl i=>hashInt i | .inr _=>0))
section
variable {X:Cx}
end
end L2
set_option Elab.async false
set_option linter.all false
set_option maxRecDepth 100000
namespace L2
open PySem PySem.Spec PyProof.Rows
section
variable {X:Cx}
def rNeX2 (K:PySem.W.Frag):R2:=fun x y H Q=>∃d d',DatX K H x d∧DatX K H y d'∧d.depth≤64∧d'.depth≤64∧Q (.bl (!PyData.eqv d d')) H
end
end L2
set_option Elab.async false
set_option linter.all false
set_option maxRecDepth 100000
set_option maxHeartbeats 4000000
namespace L2
open PySem PySem.Spec PyProof.Rows
section
variable {X:Cx}{pins:List (Addr×Obj)}{σ:St}{H:Hp}{s:Shared}
def tMinKey (K:PySem.W.Frag) (sp:Sp) (t:TA):TE:=fun σ H Q=>t σ H fun vs H1=>∃(l:Addr) (xs:List V) (kf:Nat→Int),vs=[.ref l]∧SqL K H1 l xs∧0<xs.length∧(∀i v,xs[i]?=some v→sp [v] H1 (fun r H'=>r = .int (kf i)∧H'=H1) E0) ∧
  ∀i x,xs[i]?=some x→(∀j,j<xs.length→kf i≤kf j∧(j<i→kf i<kf j))→Q x H1
end
end L2
set_option Elab.async false
set_option linter.all false
set_option maxRecDepth 100000
set_option maxHeartbeats 4000000
namespace PySem.W
open PySem PySem.Calls PyProof.Rows
namespace S6
def insAll (x:Nat):List Nat→List (List Nat)
  | []=>[[x]]
  | y::r=>(x::y::r)::(insAll x r).map (y :: ·)
def ords:Nat→List (List Nat)
  | 0=>[[]]
  | n+1=>(ords n).flatMap (insAll n)
def rk (n:Nat) (code:Nat→Nat) (i:Nat):Nat:=((List.range n).filter fun k=>decide (code k<code i)).length
def sortOk (n:Nat) (r:List Nat):Bool:=decide (((kas_sort n).run fun i j=>decide (r.getD i 0<r.getD j 0)).toList.map (fun i=>r.getD i 0)=List.range n)
end S6
end PySem.W
namespace L2
open PySem PySem.Spec PyProof.Rows PySem.W
section
variable {X:Cx}
end
end L2
set_option Elab.async false
set_option linter.all false
set_option maxRecDepth 100000
set_option maxHeartbeats 4000000
namespace L2
open PySem PySem.Spec PyProof.Rows
section
variable {prog:Program}{w:World}{A:Around}{E:Value→Shared→Prop}{s:Shared}{d it:Addr}{o:Obj}{es:Array DictEntry}{ep:Nat}
end
def Itd (a:Addr) (ob:Obj) (kvs:List (List Key×V)):It :=
  ⟨fun i H=>H a=some (.frz ob (.dT kvs))∧i<kvs.length,fun i H x H'=>H'=H∧∃(b:Addr) (kv:List Key×V),kvs[i]?=some kv∧x = .ref b∧H b=some (.tup (kv.1.map kV)),fun i H=>H a=some (.frz ob (.dT kvs))∧kvs.length≤i⟩
section
variable {X:Cx}{tg:Expr}
def iDict (td:TE):TI:=fun σ H R=>td σ H fun x H1=>∃(a:Addr) (ob:Obj) (kvs:List (List Key×V)),x = .ref a∧H1 a=some (.frz ob (.dT kvs))∧R (Itd a ob kvs) H1
def tFrz (t:TE):TE:=fun σ H Q=>t σ H fun x H1=>∃(a:Addr) (kvs:List (List Key×V)),x = .ref a∧H1 a=some (.dT kvs)∧∀ob,Q x (upd H1 a (.frz ob (.dT kvs)))
end
end L2
set_option Elab.async false
set_option linter.all false
set_option maxRecDepth 100000
namespace L2
open PySem PySem.Spec PyProof.Rows
section
variable {K:PySem.W.Frag}{a:Addr}{xs:List V}{σ0:St}{H1:Hp}{g:TG}{c:TT}{te:TE}{Q:Addr→Hp→Prop}
end
end L2
set_option Elab.async false
set_option linter.all false
set_option maxRecDepth 100000
namespace L2
open PySem PySem.Spec PyProof.Rows
section
variable {X:Cx}
end
section
variable {K:PySem.W.Frag}{a:Addr}{xs:List V}{lo:Int}{n:Nat}{σ0:St}{H1:Hp}{i0:Nat}{c:TT}{te:TE}{Q:Addr→Hp→Prop}
structure NewL (f:Nat→List V) (H1:Hp) (D:Addr) (rs:List Addr) (H:Hp):Prop where
  at_:∀i r,rs[i]?=some r→H1 r=none∧r≠D∧H r=some (.lst (f i))
  nd:rs.Nodup
end
end L2
set_option Elab.async false
set_option linter.all false
set_option maxRecDepth 100000
namespace L2
open PySem PySem.Spec PyProof.Rows
section
variable {X:Cx}
def rEqX2 (K:PySem.W.Frag):R2:=fun x y H Q=>∃d d',DatX K H x d∧DatX K H y d'∧d.depth≤64∧d'.depth≤64∧Q (.bl (PyData.eqv d d')) H
end
end L2
set_option Elab.async false
set_option linter.all false
set_option maxRecDepth 100000
namespace L2
open PySem PySem.Spec PyProof.Rows
section
variable {K:PySem.W.Frag}{a a':Addr}{xs xs':List V}{lo:Int}{n:Nat}{σ0:St}{H1:Hp}{i0:Nat}{c:TT}{te:TE}{g:TG}{Q:Addr→Hp→Prop}
end
end L2
set_option Elab.async false
set_option linter.all false
set_option maxRecDepth 100000
namespace L2
open PySem PySem.Spec PyProof.Rows
section
variable {X:Cx}
def rangeV2 (lo:Int) (n:Nat):List V:=(List.range n).map fun(i:Nat)=>V.int (lo+(i:Int))
def tLR2 (ta:TA):TE:=fun σ H Q=>ta σ H fun vs H1=>∃(lo hi:Int) (n:Nat),vs=[.int lo,.int hi]∧hi=lo+(n:Int)∧n≤1000∧-(2^61)≤lo∧lo<2^61∧∀p,H1 p=none→Q (.ref p) (upd H1 p (.lst (rangeV2 lo n)))
end
section
variable {K:PySem.W.Frag}{lo:Int}{n:Nat}{σ0:St}{H1:Hp}{i0:Nat}{c:TT}{te:TE}{Q:Addr→Hp→Prop}
end
end L2
set_option Elab.async false
set_option linter.all false
set_option maxRecDepth 100000
namespace L2
open PySem PySem.Spec PyProof.Rows
section
variable {prog:Program}{w:World}{A:Around}{E:Value→Shared→Prop}{s:Shared}
end
section
variable {X:Cx}
def ipL:TIp:=fun x y H Q=>∃l b xs zs,x = .ref l∧y = .ref b∧H l=some (.lst xs)∧H b=some (.lst zs)∧xs.length+zs.length≤sizeLine∧Q (.ref l) (upd H l (.lst (xs++zs)))
def rIndexB (K:PySem.W.Frag):V→List V→Hp→VK→Prop:=fun x vs H Q=>∃(p:Addr) (bs:List Bool) (j:Nat),x = .ref p∧vs=[.bl true]∧SqL K H p (bs.map V.bl)∧bs[j]?=some true∧(∀m,m<j→bs[m]?=some false)∧Q (.int (j:Nat)) H
def eqB (u:Value):Bool:=match u with
  | .bool b=>b
  | _=>false
end
end L2
set_option Elab.async false
set_option linter.all false
set_option maxRecDepth 100000
namespace L2
open PySem PySem.Spec PyProof.Rows
section
variable {X:Cx}
def tLV (td:TE):TE:=fun σ H Q=>td σ H fun x H1=>∃a kvs,x = .ref a∧Rd H1 a (.dK kvs)∧∀l,H1 l=none→Q (.ref l) (upd H1 l (.lst (kvs.map fun kv=>kv.2)))
end
end L2
set_option Elab.async false
set_option linter.all false
set_option maxRecDepth 100000
namespace L2
namespace ST
open PySem
def Ris (xs:Array Nat):Prop:=∀(i j a b:Nat),xs[i]?=some a→xs[j]?=some b→i<j→a<b
end ST
end L2
set_option Elab.async false
set_option linter.all false
set_option maxRecDepth 100000
namespace L2
namespace ST
open PySem PySem.Spec PyProof.Rows
def iv:Value→Int
  | .int n _=>n
  | _=>0
def SetOk (P:Program) (w:World) (h:Heap) (a:Addr) (σ:List Int):Prop :=
  ∃o es ep t,h.get? a=some o∧o.ExactSet∧o.data = .set es ep t∧ElemsOf (intKind P w) es.toList∧(es.toList.map fun e=>iv e.2).Perm σ∧es.size<scanBound∧t.fits es.size=true∧Ris t.place∧t.led = !w.params.followText "set-order"
section
variable {prog:Program}{w:World}{A:Around}{E:Value→Shared→Prop}{s:Shared}
end
section
variable {prog:Program}{w:World}{A:Around}{R:Result→Shared→Prop}{I:Addr}{fp wr:List Addr}{G:Array GenState→Array GenState→Prop}{n:Nat}{P:Nat→Value→Prop}{St:Nat→Shared→Prop}
end
end ST
end L2
set_option Elab.async false
set_option linter.all false
set_option maxRecDepth 100000
namespace PySem
namespace ST
open L2.ST
section
variable {prog:Program}{w:World}{A:Around}{E:Value→Shared→Prop}{s:Shared}
def emptySet (w:World):Obj:={ cls:=.type "set",dict:=none,data:=.set #[] 0 (.fresh 0 0 (!w.params.followText "set-order")) }
set_option maxHeartbeats 3200000 in
end
end ST
end PySem
set_option Elab.async false
set_option linter.all false
set_option maxRecDepth 100000
namespace PySem
namespace ST
open L2.ST
def itObj (first:Value) (i:Nat) (S:Addr) (n ep:Nat):Obj:={ cls:=.type "set_iterator",dict:=none,data:=.fields #[first,.int i 0,.ref S,.int n 0,.int ep 0],slots:=#[] }
section
variable {prog:Program}{w:World}{A:Around}{E:Value→Shared→Prop}{s:Shared}{I S:Addr}{o:Obj}{es:Array (Int×Value)}{ep:Nat}{t:SetTable}
end
end ST
end PySem
set_option Elab.async false
set_option linter.all false
set_option maxRecDepth 100000
namespace PySem
namespace ST
open L2.ST PyProof.Rows
def slAt (p:Array Nat):Nat→Nat
  | 0=>0
  | j+1=>(p[j]?.getD 0)+1
section
variable {prog:Program}{w:World}{A:Around}{E:Value→Shared→Prop}{s:Shared}{I S:Addr}{o:Obj}{es:Array (Int×Value)}{ep:Nat}{t:SetTable}
end
end ST
end PySem
set_option Elab.async false
set_option linter.all false
set_option maxRecDepth 100000
namespace PySem
namespace ST
open L2.ST PyProof.Rows
section
variable {prog:Program}{w:World}{A:Around}{E:Value→Shared→Prop}{s:Shared}{S:Addr}{σ:List Int}
end
end ST
end PySem
namespace L2
open PySem PySem.Spec PyProof.Rows
def tSS (K:PySem.W.Frag) (ta:TA):TE:=fun σ H Q=>ta σ H fun vs H1=>∃(p:Addr) (ns:List Int),vs=[.ref p]∧SqL K H1 p (ns.map V.int)∧ns.length<64∧∀(l:Addr) (ms:List Int),H1 l=none→(∀k,k∈ms↔k∈ns)→ms.Pairwise (· < ·)→Q (.ref l) (upd H1 l (.lst (ms.map V.int)))
section
variable {X:Cx}
end
end L2
set_option Elab.async false
set_option linter.all false
set_option maxRecDepth 100000
set_option maxHeartbeats 4000000
namespace L2
open PySem PySem.Spec PyProof.Rows
def ItdK (a:Addr) (ob:Obj) (kvs:List (Key×V)):It :=
  ⟨fun i H=>H a=some (.frz ob (.dK kvs))∧i<kvs.length,fun i H x H'=>H'=H∧∃(kv:Key×V),kvs[i]?=some kv∧x=kV kv.1,fun i H=>H a=some (.frz ob (.dK kvs))∧kvs.length≤i⟩
section
variable {X:Cx}{tg:Expr}
def iDictK (td:TE):TI:=fun σ H R=>td σ H fun x H1=>∃(a:Addr) (ob:Obj) (kvs:List (Key×V)),x = .ref a∧H1 a=some (.frz ob (.dK kvs))∧R (ItdK a ob kvs) H1
def tFrzK (t:TE):TE:=fun σ H Q=>t σ H fun x H1=>∃(a:Addr) (kvs:List (Key×V)),x = .ref a∧H1 a=some (.dK kvs)∧∀ob,Q x (upd H1 a (.frz ob (.dK kvs)))
end
section
variable {K:PySem.W.Frag}{a a':Addr}{xs xs':List V}{lo:Int}{n:Nat}{σ0:St}{H1:Hp}{i0:Nat}{c:TT}{te:TE}{g:TG}{Q:Addr→Hp→Prop}
end
end L2
set_option Elab.async false
set_option linter.all false
set_option maxRecDepth 100000
set_option maxHeartbeats 4000000
namespace L2
open PySem PySem.Spec PyProof.Rows
def Itv (K:PySem.W.Frag) (a:Addr) (n:Nat):It :=
  ⟨fun i H=>i<n∧∃xs x,SqL K H a xs∧xs[n-1-i]?=some x,fun i H x H'=>H'=H∧∀xs,SqL K H a xs→xs[n-1-i]?=some x,fun i H=>i=n⟩
def iRev (K:PySem.W.Frag) (ta:TA):TI:=fun σ H R=>ta σ H fun vs H1=>∃l xs,vs=[.ref l]∧SqL K H1 l xs∧R (Itv K l xs.length) H1
end L2
set_option Elab.async false
set_option linter.all false
set_option maxRecDepth 100000
set_option maxHeartbeats 4000000
namespace L2
open PySem PySem.Spec PyProof.Rows
def tDisp1 (tk tv:TE):TE:=fun σ H Q=>∀p,H p=none→tk σ (upd H p (.dK [])) fun x H2=>tv σ H2 fun y H3=>H3 p=some (.dK [])∧∃i:Int,x = .int i∧Q (.ref p) (upd H3 p (.dK [(.inl i,y)]))
end L2
set_option Elab.async false
set_option linter.all false
set_option maxRecDepth 100000
namespace L2
open PySem PySem.Spec PyProof.Rows
section
variable {X:Cx}
end
end L2
set_option Elab.async false
set_option linter.all false
set_option maxRecDepth 100000
namespace L2
open PySem PySem.Spec PyProof.Rows
section
variable {X:Cx}
def tFv (t:TE):TE:=fun σ H Q=>t σ H fun x H1=>∃i:Int,x = .int i∧i.natAbs.log2<1920∧Q (.str (toString i)) H1
theorem pe_fv (h:PE X e t):PE X (.FormattedValue e (-1) none pos) (tFv t):=by
  intro pins s σ H Q I hq
  refine wpAny_FormattedValue_plain (thn (h pins s σ H _ I hq) fun v s1 ⟨x,H1,I1,r1,q1⟩=>?_)
  obtain⟨i,rfl,hi,q⟩:=q1
  obtain⟨t,rfl⟩:=(show ∃t,v=Value.int i t from r1)
  exact wpAny_formatField_int hi ⟨.str _,H1,I1.tok _,⟨_,rfl⟩,q⟩
abbrev TJ:=St→Hp→Str→(Str→Hp→Prop)→Prop
def PJ (X:Cx) (es:List Expr) (t:TJ):Prop :=
  ∀(pins:List (Addr×Obj)) (s:Shared) (σ:St) (H:Hp) (acc:Str) (R:Str→Hp→Prop) (Q:Str→Shared→Prop),Inv X pins σ H s→t σ H acc R→(∀out H' s',Inv X pins σ H' s'→R out H'→Q out s')→Joins (model X.prog X.w) X.A X.xe (evalEach es X.env) acc Q s
def tjNil:TJ:=fun _ H acc R=>R acc H
def tjCons (t:TE) (r:TJ):TJ:=fun σ H acc R=>t σ H fun x H1=>∃y:Str,x = .str y∧(acc++y).length≤sizeLine∧r σ H1 (acc++y) R
theorem pj_nil:PJ X [] tjNil:=fun _ _ _ _ _ _ _ I h k=>k _ _ _ I h
theorem pj_cons (h:PE X e t) (hr:PJ X es r):PJ X (e::es) (tjCons t r):=by
  intro pins s σ H acc R Q I hq k
  show wpAny _ _ (eval e X.env) _ _ s
  refine thn (h pins s σ H _ I hq) fun v s1 ⟨x,H1,I1,r1,q1⟩=>?_
  obtain⟨y,rfl,hy,q⟩:=q1
  obtain⟨t,rfl⟩:=(show ∃t,v=Value.str y t from r1)
  exact⟨y,t,rfl,hy,hr pins s1 σ H1 _ R Q I1 q k⟩
def tFs (t:TJ):TE:=fun σ H Q=>t σ H Str.empty fun out H1=>out.length≤sizeLine∧Q (.str out) H1
theorem pe_fs (h:PJ X (e1::e2::es) t):PE X (.JoinedStr (e1::e2::es) pos) (tFs t):=by
  intro pins s σ H Q I hq
  exact wpAny_JoinedStr (h pins s σ H _ _ _ I hq fun out H' s' I' q=>⟨q.1,.str _,H',I'.tok _,⟨_,rfl⟩,q.2⟩)
def rJoin (K:PySem.W.Frag):V→List V→Hp→VK→Prop:=fun x vs H Q=>∃(sep:Str) (p:Addr) (ss:List Str),x = .str sep∧vs=[.ref p]∧SqL K H p (ss.map V.str)∧(ss.map (·.length)).sum+ss.length*sep.length≤16777216∧Q (.str (Txt.join sep ss)) H
theorem strs_of:∀{ss:List Str}{us:List Value},Vals (ss.map V.str) us→StrsAre us ss
  | [],_,.nil=>.nil
  | s::ss,_,.cons r rs=>by
    obtain⟨t,rfl⟩:=(show ∃t,_=Value.str s t from r)
    exact .cons s t (strs_of rs)
theorem mt_joinR:MtR X "str.join" (rJoin X.K):=by
  intro pins s σ H x vs v us Q I rx rv h
  obtain⟨sep,p,ss,rfl,rfl,hq,hl,q⟩:=h
  obtain⟨t,rfl⟩:=(show ∃t,v=Value.str sep t from rx)
  obtain⟨u,rfl,ru⟩:=rv.one
  cases ru
  obtain⟨its,r',pl,hz⟩:=I.list hq
  exact join_list pl.isList (strs_of r') hl fun t' k=>⟨.str _,H,I.tok _,⟨_,rfl⟩,q⟩
end
end L2
set_option Elab.async false
set_option linter.all false
set_option maxRecDepth 100000
set_option maxHeartbeats 4000000
namespace PySem.W
open PySem PySem.Calls PyProof.Rows
namespace SG
section
variable {n:Nat}{code:Nat→Nat}
abbrev ck (code:Nat→Nat) (p:Array Nat) (i:Nat):Nat:=code (p.getD i 0)
abbrev lc (code:Nat→Nat):Nat→Nat→Bool:=fun i j=>decide (code i<code j)
def Srt (code:Nat→Nat) (p:Array Nat) (m:Nat):Prop:=∀i j,i<j→j<m→ck code p i<ck code p j
def Dec (code:Nat→Nat) (p:Array Nat) (m:Nat):Prop:=∀i j,i<j→j<m→ck code p j<ck code p i
def Inj (n:Nat) (code:Nat→Nat) (p:Array Nat):Prop:=∀i j,i<n→j<n→ck code p i=ck code p j→i=j
end
end SG
end PySem.W
namespace L2
open PySem PySem.Spec PyProof.Rows PySem.W
section
variable {X:Cx}
end
end L2
set_option Elab.async false
set_option linter.all false
set_option maxRecDepth 100000
namespace L2
open PySem PySem.Spec PyProof.Rows
section
variable {K:PySem.W.Frag}{a:Addr}{xs:List V}{σ0:St}{H1:Hp}{g:TG}{c:TT}{te:TE}{Q:Addr→Hp→Prop}
end
end L2
set_option Elab.async false
set_option linter.all false
set_option maxRecDepth 100000
namespace L2
open PySem PySem.Spec PyProof.Rows
section
variable {X:Cx}
def Imm:V→Prop
  | .non=>True
  | .bl _=>True
  | .int _=>True
  | .str _=>True
  | .ref _=>True
  | _=>False
def Alk (K:PySem.W.Frag) (H:Hp) (x y:V):Prop:=(x=y∧Imm x)∨∃(a b:Addr) (zs:List V),x = .ref a∧y = .ref b∧SqL K H a zs∧SqL K H b zs∧∀z∈zs,Imm z
def rNeA (K:PySem.W.Frag):R2:=fun x y H Q=>∃(l l':Addr) (xs ys:List V),x = .ref l∧y = .ref l'∧SqL K H l xs∧SqL K H l' ys∧xs.length=ys.length∧(∀(i:Nat) (x y:V),xs[i]?=some x→ys[i]?=some y→Alk K H x y)∧Q (.bl false) H
def rNeE (K:PySem.W.Frag):R2:=fun x y H Q=>∃(l l':Addr) (xs:List V),x = .ref l∧y = .ref l'∧SqL K H l xs∧SqL K H l' []∧Q (.bl (decide (xs≠[]))) H
end
end L2
set_option Elab.async false
set_option linter.all false
set_option maxRecDepth 100000
namespace L2
open PySem PySem.Spec PyProof.Rows
section
variable {X:Cx}
def rSplit:V→List V→Hp→VK→Prop:=fun x xs H Q=>∃t sep:Str,x = .str t∧xs=[.str sep]∧(sep.length == 0)=false∧t.length+2≤sizeLine∧∀l,H l=none→Q (.ref l) (upd H l (.lst ((Txt.split t sep).map V.str)))
theorem strs_vals:∀(ss:List Str) (n:Nat),Vals (ss.map V.str) (strsFrom n ss)
  | [],_=>.nil
  | s::ss,n=>.cons ⟨_,rfl⟩ (strs_vals ss (n+1))
theorem mt_splitR:MtR X "str.split" rSplit:=by
  intro pins s σ H x xs v us Q I rx rv h
  obtain⟨t,sep,rfl,rfl,h0,hz,q⟩:=h
  obtain⟨tk,rfl⟩:=(show ∃tk,v=Value.str t tk from rx)
  obtain⟨u,rfl,ru⟩:=rv.one
  obtain⟨tu,rfl⟩:=(show ∃tu,u=Value.str sep tu from ru)
  have fin:∀(its:List Value) (k:Nat),Vals ((Txt.split t sep).map V.str) its→(Txt.split t sep).length≤sizeLine→EP X pins σ Q (.ref s.heap.objs.size) { s with heap:=s.heap.push { cls:=.type "list",data:=.seq its.toArray },toks:=k }:=fun its k r hl =>
    ⟨.ref s.heap.objs.size,_,I.laid (t':=k) (fun b o e=>Heap.get?_push_of_some _ e) (Nat.le_refl _) (show ObjOk X.prog X.w _ _ _ (.lst _) from⟨by rw[List.length_map];exact hl,its,_,r,Heap.get?_push_size _ rfl⟩),rfl,q _ (I.hok.fresh (Nat.le_refl _))⟩
  have kind:s.TypeIs (Value.str t tk) "str":=rfl
  by_cases c1:(decide (t.length<sep.length)||decide (Builtin.Str.strKind t<Builtin.Str.strKind sep))=true
  · have e:Txt.split t sep=[t]:=by unfold Txt.split;rw[if_pos c1]
    refine call_meets F.slot_str_split kind F.entry_str_split (F.args_str_split_2 _ _) (meets_str_split_cannot_occur t sep tk tu c1) ?_
    have z:=fin [Value.str t tk] s.toks (by rw[e];exact .cons ⟨_,rfl⟩ .nil) (by rw[e];show 1≤sizeLine;decide)
    exact z
  · have c1':(decide (t.length<sep.length)||decide (Builtin.Str.strKind t<Builtin.Str.strKind sep))=false:=Bool.eq_false_iff.mpr c1
    by_cases c2:(Builtin.Str.occurrences t sep 0 t.length (t.length+1)).isEmpty=true
    · have e:Txt.split t sep=[t]:=by unfold Txt.split;rw[if_neg c1,if_pos c2]
      refine call_meets F.slot_str_split kind F.entry_str_split (F.args_str_split_2 _ _) (meets_str_split_not_found t sep tk tu c1' h0 c2) ?_
      have z:=fin [Value.str t tk] s.toks (by rw[e];exact .cons ⟨_,rfl⟩ .nil) (by rw[e];show 1≤sizeLine;decide)
      exact z
    · have e:Txt.split t sep=Builtin.Str.partsBetween t (Builtin.Str.occurrences t sep 0 t.length (t.length+1)) sep.length:=by unfold Txt.split;rw[if_neg c1,if_neg c2]
      have hl:(Txt.split t sep).length≤sizeLine:=by
        have z:=PyProof.Rows.len_le_of_split (l:=(Txt.split t sep).map fun s=>(s,tk)) (x:=t) (y:=sep) (by rw[List.map_map];exact List.map_id _)
        rw[List.length_map] at z
        omega
      refine call_meets F.slot_str_split kind F.entry_str_split (F.args_str_split_2 _ _) (meets_str_split_sep t sep tk tu c1' h0 (Bool.eq_false_iff.mpr c2) (by omega) (by rw[← e];exact hl)) ?_
      have z:=fin (strsFrom s.toks (Txt.split t sep)) (s.toks+(Txt.split t sep).length) (strs_vals _ _) hl
      rw[e] at z
      exact z
def rStarts:V→List V→Hp→VK→Prop:=fun x xs H Q=>∃t p:Str,x = .str t∧xs=[.str p]∧Q (.bl (Txt.startswith t p)) H
theorem mt_startsR:MtR X "str.startswith" rStarts:=by
  intro pins s σ H x xs v us Q I rx rv h
  obtain⟨t,p,rfl,rfl,q⟩:=h
  obtain⟨tk,rfl⟩:=(show ∃tk,v=Value.str t tk from rx)
  obtain⟨u,rfl,ru⟩:=rv.one
  obtain⟨tu,rfl⟩:=(show ∃tu,u=Value.str p tu from ru)
  refine call_gives F.slot_str_startswith rfl F.entry_str_startswith (F.args_str_startswith_2 _ _) (gives_str_startswith t p tk tu) ?_
  exact⟨.bl _,H,I,rfl,q⟩
theorem call_int_text:CallR X (.type "int") (fun xs H Q=>∃(x:Str) (n:Int),xs=[.str x]∧PySem.intText? x=some n∧x.length≤640∧Q (.int n) H):=by
  intro pins s σ H xs us Q I r h
  obtain⟨x,n,rfl,hn,hl,q⟩:=h
  obtain⟨u,rfl,t,rfl⟩:=vals1 r
  exact PySem.W.KIN.call_text hn hl ⟨.int n,H,I.tok _,⟨_,rfl⟩,q⟩
def rSlS:V→Option Int→Option Int→Hp→VK→Prop:=fun x lo hi H Q=>∃t:Str,x = .str t∧(Txt.slice t lo hi).length≤sizeLine∧Q (.str (Txt.slice t lo hi)) H
theorem sl_str:SlR X rSlS:=by
  intro pins s σ H x v vl vu lo hi sl Q I rx hs pl pu h
  obtain⟨t,rfl,hz,q⟩:=h
  obtain⟨tk,rfl⟩:=(show ∃tk,v=Value.str t tk from rx)
  refine⟨"str",_,F.slot_str_getitem.lookup,rfl,?_⟩
  have part:∀{v:Value}{o:Option Int},IsPart v o→∃p:Option (Int×Tok),partValue p=v∧p.map (·.1)=o:=fun {v o} h=>by
    cases h with
    | none=>exact⟨none,rfl,rfl⟩
    | int i t=>exact⟨some (i,t),rfl,rfl⟩
  obtain⟨p1,e1,e1'⟩:=part pl
  obtain⟨p2,e2,e2'⟩:=part pu
  have hs':s.heap.IsSlice sl p1 p2 none:=by
    obtain⟨o,h1,h2,h3⟩:=hs
    exact⟨o,h1,h2,by rw[h3,e1,e2];rfl⟩
  refine wpAny_getItem_str_slice hs' rfl ?_
  have pick:slicePicked t p1 p2 none=Builtin.Str.strSliceIndices lo hi 1 t.length:=by
    subst e1' e2'
    rfl
  have eA:sliceMade t tk p1 p2 none=if ((Builtin.Str.strSliceIndices lo hi 1 t.length).length == t.length)=true then Made.val (Value.str t tk) else Made.str { cps:=(List.filterMap (fun i=>t.cps[i]?) (Builtin.Str.strSliceIndices lo hi 1 t.length)).toArray }:=by
    unfold sliceMade
    rw[pick]
    rfl
  have eB:Txt.slice t lo hi=if ((Builtin.Str.strSliceIndices lo hi 1 t.length).length == t.length)=true then t else { cps:=(List.filterMap (fun i=>t.cps[i]?) (Builtin.Str.strSliceIndices lo hi 1 t.length)).toArray }:=rfl
  rw[eA]
  rw[eB] at q hz
  by_cases c:((Builtin.Str.strSliceIndices lo hi 1 t.length).length == t.length)=true
  · rw[if_pos c] at q⊢
    exact⟨.str t,H,I,⟨_,rfl⟩,q⟩
  · rw[if_neg c] at q hz⊢
    exact⟨hz,.str _,H,I.tok _,⟨_,rfl⟩,q⟩
def Its (t:Str):It:=⟨fun i H=>i<t.cps.size,fun i H x H'=>H'=H∧∃c,t.cps[i]?=some c∧x = .str ⟨#[c]⟩,fun i H=>i=t.cps.size⟩
def ascii (t:Str):Prop:=(t.cps.all fun x=>decide (x<128))=true
theorem turn_str {P:Program}{w:World}{K:PySem.W.Frag}{tg:Expr} (t:Str) (tk:Tok) (it:Addr):Turn P w K tg (Its t) [it] it (fun i h=>h.IsStrIter it "str_ascii_iterator" t tk i) where
  mem:=by simp
  obj:=fun i h st b hb=>by
    have e:b=it:=by simpa using hb
    subst e
    obtain⟨o,e,c,d⟩:=st
    exact⟨o,e,fun v z=>by rw[d] at z;cases z⟩
  keep:=fun i h h' st k=>by
    obtain⟨o,e,c,d⟩:=st
    exact⟨o,k it (by simp) o e,c,d⟩
  item:=by
    intro X hP hw hK hc i pins s σ H E I hf st hg
    subst hP hw hK
    have hi:i<t.cps.size:=hg
    obtain⟨f0,f1,f2,f3,f4,f5⟩:=hf it (by simp)
    refine wpAny_pyNext_ascii_item st (c:=t.cps[i]) (Array.getElem?_eq_getElem hi) fun h' st' sb=>?_
    have I1:Inv X pins σ H { s with heap:=h',toks:=s.toks+1 }:=I.turned (t':=s.toks+1) (fun b o hb e=>(sb.2 b hb).trans e) f0 f1 f3 f4 f5
    obtain⟨o,e,c,d⟩:=id st'
    exact⟨_,rfl,go_of (s:={ s with heap:=h',toks:=s.toks+1 }) e c d (by decide) ⟨.str ⟨#[t.cps[i]]⟩,H,I1,⟨_,rfl⟩,⟨rfl,_,Array.getElem?_eq_getElem hi,rfl⟩,st',fun b hb=>(hf b hb).1⟩⟩
  done:=by
    intro X hP hw hK hc i pins s σ H E I hf st hg
    subst hP hw hK
    obtain rfl:i=t.cps.size:=hg
    obtain⟨f0,f1,f2,f3,f4,f5⟩:=hf it (by simp)
    exact wpAny_pyNext_ascii_end (I.ok.hd hc) st (Array.getElem?_eq_none (Nat.le_refl _)) fun h' eb=>⟨rfl,I.turned (t':=s.toks) (fun b o hb e=>eb b o hb e) f0 f1 f3 f4 f5⟩
  self:=fun _ _ _ _ _ st h=>wpAny_pyIter_striter_ascii st h
def iStr (te:TE):TI:=fun σ H R=>te σ H fun x H1=>∃t:Str,x = .str t∧ascii t∧R (Its t) H1
theorem pi_str {tg l:Expr}{tl:TE} (hl:PE X l tl):PI X tg l (iStr tl):=by
  intro pins s σ H R I h
  refine thn (hl pins s σ H _ I h) fun v s1 ⟨x,H1,I1,r1,q1⟩=>?_
  obtain⟨t,rfl,ha,q⟩:=q1
  obtain⟨tk,rfl⟩:=(show ∃tk,v=Value.str t tk from r1)
  refine wpAny_pyIter_strU ?_
  have ety:strIterType t="str_ascii_iterator":=by
    exact if_pos ha
  rw[ety]
  have hit:(s1.heap.push { cls:=.type "str_ascii_iterator",data:=.fields #[.str t tk,.int 0 0] }).IsStrIter s1.heap.objs.size "str_ascii_iterator" t tk 0:=⟨_,Heap.get?_push_size _ rfl,rfl,rfl⟩
  have I2:Inv X pins σ H1 { s1 with heap:=s1.heap.push { cls:=.type "str_ascii_iterator",data:=.fields #[.str t tk,.int 0 0] } }:=I1.kept (t':=s1.toks) fun b o e=>Heap.get?_push_of_some _ e
  refine⟨s1.heap.objs.size,[s1.heap.objs.size],_,_,H1,rfl,I2,turn_str t tk _,hit,fun b hb=>?_,q⟩
  have e:b=s1.heap.objs.size:=by simpa using hb
  subst e
  exact I1.fpOk (Nat.le_refl _) (I1.hok.fresh (Nat.le_refl _))
end
end L2
set_option Elab.async false
set_option linter.all false
set_option maxRecDepth 100000
namespace L2
open PySem PySem.Spec PyProof.Rows
section
variable {X:Cx}
def tDead:TS:=fun _ _ _=>False
theorem ps_dead {st:Stmt}:PS X st tDead:=fun _ _ _ _ _ _ h=>h.elim
end
section
variable {K:PySem.W.Frag}{t:Str}{σ0:St}{H1:Hp}{i0:Nat}{c:TT}{te:TE}{Q:Addr→Hp→Prop}
theorem comp_str (f:Nat→Option V) (hn:t.cps.size≤sizeLine)
    (step:∀(i:Nat) (x:Nat) (H2:Hp) (k:VK) (k0:Hp→Prop),Same H1 H2→t.cps[i]?=some x→(∀y,f x=some y→∀H3,Same H2 H3→k y H3)→(f x=none→∀H3,Same H2 H3→k0 H3) →
      c (σ0.set i0 (some (.str ⟨#[x]⟩))) H2 fun b H4=>if b=true then te (σ0.set i0 (some (.str ⟨#[x]⟩))) H4 k else k0 H4)
    (h:∀D H2,H1 D=none→Same H1 H2→H2 D=some (.lst (t.cps.toList.filterMap f))→Q D H2) :
    ∀D,H1 D=none→∃W:Nat→Nat→St→Hp→Prop,(∃m,W 0 m σ0 (upd H1 D (.lst [])))∧∀i m σ1 H2,W i m σ1 H2 →
      ((Its t).stop i H2∧Q D H2)∨((Its t).go i H2∧∃N:St→Hp→Prop,(∀σ' H',N σ' H'→∃m',m'<m∧W (i+1) m' σ' H') ∧
        ∀x H',(Its t).yld i H2 x H'→gName i0 x σ1 H' fun σ2 H3=>c σ2 H3 fun b H4=>if b=true then te σ2 H4 fun y H5=>∃xs,H5 D=some (.lst xs)∧xs.length<sizeLine∧N σ2 (upd H5 D (.lst (xs++[y]))) else N σ2 H4):=by
  intro D hD
  refine⟨fun i m σ1 H2=>σ1.set i0 none=σ0.set i0 none∧Same H1 H2∧H2 D=some (.lst ((t.cps.toList.take i).filterMap f))∧i≤t.cps.size∧m=t.cps.size-i,⟨t.cps.size,rfl,.upd_new hD,upd_same,Nat.zero_le _,rfl⟩,?_⟩
  rintro i m σ1 H2 ⟨hσ,hs,hd,hi,rfl⟩
  have hset:∀v:Option V,σ1.set i0 v=σ0.set i0 v:=fun v=>by
    have z:=congrArg (fun l=>List.set l i0 v) hσ
    simpa using z
  rcases Nat.lt_or_ge i t.cps.size with hlt | hge
  · right
    refine⟨hlt,fun σ' H'=>σ'.set i0 none=σ0.set i0 none∧Same H1 H'∧H' D=some (.lst ((t.cps.toList.take (i+1)).filterMap f)),fun σ' H' ⟨a,b,c⟩=>⟨t.cps.size-(i+1),by omega,a,b,c,hlt,rfl⟩,?_⟩
    rintro v H' ⟨rfl,x,hx,rfl⟩
    have et:t.cps.toList.take (i+1)=t.cps.toList.take i++[x]:=by
      rw[List.take_add_one,Array.getElem?_toList,hx]
      rfl
    show c (σ1.set i0 (some (.str ⟨#[x]⟩))) _ _
    rw[hset]
    refine step i x _ _ _ hs hx (fun y hy H3 hs3=>⟨_,hs3 _ _ hd,?_,?_,?_,?_⟩) fun hno H3 hs3=>⟨?_,hs.trans hs3,?_⟩
    · refine Nat.lt_of_le_of_lt (List.length_filterMap_le _ _) ?_
      rw[List.length_take]
      omega
    · simp
    · exact(hs.trans hs3).upd_ne' hD
    · rw[upd_same,et,List.filterMap_append]
      simp[hy]
    · simp
    · rw[hs3 _ _ hd,et,List.filterMap_append]
      simp[hno]
  · left
    obtain rfl:i=t.cps.size:=Nat.le_antisymm hi hge
    refine⟨rfl,h D _ hD hs ?_⟩
    rw[hd,List.take_of_length_le (by rw[Array.length_toList];exact Nat.le_refl _)]
end
end L2
set_option Elab.async false
set_option linter.all false
set_option maxRecDepth 100000
namespace L2
open PySem PySem.Spec PyProof.Rows
section
open AutoSeq1 (wpAny_loadPart')
set_option maxHeartbeats 2000000 in
theorem meets_enum_start (l:Addr) (items:Array Value) (n:Nat) (dct:Option Addr) (sl:Array (Option Value)) (i:Int) (tk:Tok) (hi:Builtin.SmallTypes.fitsIndex i=true) :
    Meets (Builtin.«enumerate.__new__» ⟨[.type "enumerate",.ref l],[("start",.int i tk)]⟩) (fun _ R s=>s.heap.get? l=some { cls:=.type "list",dict:=dct,data:=.seq items n,slots:=sl } ∧
      R (.ok (.ret (.ref (s.heap.push { cls:=.type "list_iterator",data:=.fields #[.ref l,.int 0 0] }).objs.size)))
        { s with heap:=(s.heap.push { cls:=.type "list_iterator",data:=.fields #[.ref l,.int 0 0] }).push { cls:=.type "enumerate",data:=.fields #[.none,.bool false,.ref s.heap.objs.size,rawInt i,.none,.none] } }) :=
  .of_wp fun prog w A R s h=>by
    obtain⟨hp,g,d,tk,os⟩:=s;obtain⟨hl,h⟩:=h
    have hsub:=sub_enumerate
    have hL:Heap.IsList (Shared.heap ⟨hp,g,d,tk,os⟩) l items:=⟨_,hl,rfl,n,rfl⟩
    wp_walk using wpAny_loadPart' hl
    refine wpAny_stack_any fun st=>wpAny_pure ?_
    split
    · rename_i c _ _ _ _ _
      cases (c == Value.type "enumerate")
      · wp_walk using wpAny_loadPart' hl,wpAny_pyIter_list hL
        exact⟨_,rfl,h⟩
      · wp_walk using wpAny_loadPart' hl,wpAny_pyIter_list hL
        exact⟨_,rfl,h⟩
    · wp_walk using wpAny_loadPart' hl,wpAny_pyIter_list hL
      exact⟨_,rfl,h⟩
end
theorem typeCall_enum_s (a b:Value):checkTypeCall "enumerate" ⟨[a],[("start",b)]⟩=pure ():=by kernel_rfl
theorem newCall_enum_s (a b:Value):checkBuiltinCall "enumerate.__new__" ⟨[.type "enumerate",a],[("start",b)]⟩=pure ():=by kernel_rfl
theorem argsOk_enum_s (obj a b:Value):argsOk "object.__init__" ⟨[obj,a],[("start",b)]⟩:=by
  kernel_rfl
theorem callType_kw
    (tc:TypeCalled T newId initId) (hck:checkTypeCall T { pos:=args,kw:=kw }=pure ()) (hi:entryFor table initId=some Bi)
    (hn:codeAny (model prog w) A.in1 (Code.call (Value.builtin newId) { pos:=Value.type T::args,kw:=kw }) (wants Q₁ E) s)
    (hin:∀obj s₁,Q₁ obj s₁→s₁.TypeIs obj T∧argsOk initId { pos:=obj::args,kw:=kw } ∧
      wpAny (model prog w) A.in1.in1 (Bi { pos:=obj::args,kw:=kw }) (fun fin s'=>fin=Fin.done (Flow.ret Value.none)∧Q obj s') E s₁) :
    wpAny (model prog w) A (call (Value.type T) args kw) Q E s:=by
  refine wpAny_call (codeAny_of_tree ?_)
  refine wpAny_pure (a:=Fin.again (Code.builtin "type.__call__" { pos:=Value.type T::args,kw:=kw })) ?_
  refine⟨Code.quiet_builtin _ (by decide +kernel),codeAny_builtin F.entry_type_call ?_⟩
  rw[Around.under_plain (weight_type_call_type T args kw) (units_type_call_type T args kw)]
  refine wpAny_ite_false (decide_eq_false (by rw[tc.notType];decide)) ?_
  refine wpAny_ite_false (decide_eq_false (by rw[tc.canCreate];decide)) ?_
  refine wpAny_bind (wpAny_of_eq hck ?_)
  obtain⟨c,tl,hm⟩:=tc.mro
  refine wpAny_bind (wpAny_of_eq hm ?_)
  refine wpAny_ite_false rfl ?_
  refine wpAny_bind (wpAny_of_eq tc.made ?_)
  refine wpAny_bind (wpAny_pure ?_)
  refine wpAny_bind (wpAny_holding (wpAny_call (codeAny_mono hn fun r s1 h=>?_)))
  match r,h with
  | .error e,h=>exact h
  | .ok (.ret obj),h =>
    obtain⟨ty,ao,run⟩:=hin obj s1 h
    refine wpAny_bind (wpAny_isInstance ty tc.sub ?_)
    refine wpAny_ite_false rfl ?_
    refine wpAny_bind (wpAny_holding ?_)
    refine wpAny_bind (wpAny_specialOf ty tc.init.lookup ?_)
    refine wpAny_holding ?_
    refine wpAny_bind (wpAny_of_eq (tc.init.bind obj) ?_)
    refine wpAny_bind (wpAny_call (codeAny_call_builtin tc.init.plain hi ?_))
    refine tc.init.check _ _ _ _ _ _ _ _ ty ao ?_
    refine wpAny_mono run (fun f s2 z=>?_) fun e s2 z=>z
    obtain⟨rfl,q⟩:=z
    refine wpAny_pure ?_
    refine wpAny_ite_false (by decide) ?_
    exact wpAny_pure q
theorem object_init1
    (hl:typeLookup (.type T) "__init__"=pure (some (.builtin "object.__init__"))) (hm:Bind.madeBy (.type T)=pure (some newId)) (hne:(some newId != some "object.__new__")=true)
    (hT:s.TypeIs obj T) (q:Q (Fin.done (Flow.ret Value.none)) s):wpAny (model prog w) A (Builtin.«object.__init__» { pos:=[obj,a],kw:=kw }) Q E s:=by
  repeat (any_goals (first | assumption | wp_step))
theorem call_enum_start (hi:Builtin.SmallTypes.fitsIndex i=true){Q:Value→Shared→Prop} (hL:s.heap.IsList l items)
    (h:∀h',IsEnum h' (s.heap.objs.size+1) s.heap.objs.size i .none→h'.IsListIter s.heap.objs.size l 0 →
      (∀b o,s.heap.get? b=some o→h'.get? b=some o)→Q (.ref (s.heap.objs.size+1)) { s with heap:=h' }) :
    wpAny (model prog w) A (call (.type "enumerate") [.ref l] [("start",.int i tk)]) Q E s:=by
  obtain⟨⟨c,dct,dt,sl⟩,hl,hc,n,hd⟩:=hL
  replace hc:c = .type "list":=hc
  replace hd:dt = .seq items n:=hd
  subst hc hd
  have hz:(s.heap.push { cls:=.type "list_iterator",data:=.fields #[.ref l,.int 0 0] }).objs.size=s.heap.objs.size+1:=Heap.size_push ..
  have he:IsEnum ((s.heap.push { cls:=.type "list_iterator",data:=.fields #[.ref l,.int 0 0] }).push
      { cls:=.type "enumerate",data:=.fields #[.none,.bool false,.ref s.heap.objs.size,rawInt i,.none,.none] }) (s.heap.objs.size+1) s.heap.objs.size i .none:=by
    have:=Heap.get?_push_size (s.heap.push { cls:=.type "list_iterator",data:=.fields #[.ref l,.int 0 0] })
      (o:={ cls:=.type "enumerate",data:=.fields #[.none,.bool false,.ref s.heap.objs.size,rawInt i,.none,.none] }) rfl
    rw[hz] at this;exact this
  refine callType_kw F.called_enumerate (typeCall_enum_s _ _) F.entry_object_init
    (codeAny_call_builtin F.called_enumerate.plain F.entry_enumerate_new (wpAny_of_eq (newCall_enum_s _ _) (meets_enum_start l items n dct sl i tk hi prog w A.in1 (wants (fun obj s₁=>s₁.TypeIs obj "enumerate"∧Q obj s₁) E) s ⟨hl,?_⟩)))
    (fun obj s₁ z=>⟨z.1,argsOk_enum_s _ _ _,object_init1 F.called_enumerate.init.lookup F.called_enumerate.made (by decide) z.1 ⟨rfl,z.2⟩⟩)
  show _∧_
  rw[hz]
  exact⟨⟨_,he,rfl⟩,h _ he ⟨_,Heap.get?_push_of_some _ (Heap.get?_push_size _ rfl),rfl,rfl⟩ fun b o x=>Heap.get?_push_of_some _ (Heap.get?_push_of_some _ x)⟩
theorem draws_shift {prog:Program}{w:World}{A:Around}{it:Addr}{fp:List Addr}{n:Nat}{P:Nat→Value→Prop}{St:Nat→Heap→Prop} (D:Draws prog w A it fp n P St):Draws prog w A it fp (n+1) (fun i x=>P (i-1) x) (fun i h=>1≤i∧St (i-1) h) where
  live:=fun _ _ st=>D.live _ _ st.2
  frame:=fun _ _ _ st hk=>⟨st.1,D.frame _ _ _ st.2 hk⟩
  item:=fun i s Q E hi st hQ=>D.item (i-1) s Q E (by have:=st.1;omega) st.2 fun x h' tk p st' sb=>hQ x h' tk p ⟨by omega,by rw[show i+1-1=i-1+1 by have:=st.1;omega];exact st'⟩ sb
  done:=fun s Q E st hE=>D.done s Q E st.2 hE
def IteS (K:PySem.W.Frag) (l:Addr):It :=
  ⟨fun i H=>∃xs x,SqL K H l xs∧xs[i]?=some x,
   fun i H v H'=>∃t x,v = .ref t∧H t=none∧H'=upd H t (.tup [.int ((i:Int)+1),x])∧∀xs,SqL K H l xs→xs[i]?=some x,
   fun i H=>∃xs,SqL K H l xs∧xs.length≤i⟩
def enumTnS (e it l:Addr) (i:Nat) (h:Heap):Prop:=(∃old,IsEnum h e it ((i+1:Nat):Int) old)∧h.IsListIter it l i
theorem turn_enumS {P:Program}{w:World}{K:PySem.W.Frag}{elts:List Expr} {x1}{pos:Pos}{e it l:Addr} (hne:e≠it) :
    Turn P w K (.Tuple elts x1 pos) (IteS K l) [e,it] e (enumTnS e it l) where
  mem:=by simp
  obj:=fun i h ⟨⟨old,he⟩,⟨o,ho,_,d⟩⟩ b hb=>by
    simp only[List.mem_cons,List.not_mem_nil,or_false] at hb
    rcases hb with rfl | rfl
    · exact⟨_,he,fun v q=>nomatch q⟩
    · exact⟨_,ho,fun v q=>by rw[d] at q;cases q⟩
  keep:=fun i h h' ⟨⟨old,he⟩,h1⟩ k=>⟨⟨old,k e (by simp) _ he⟩,h1.at fun o q=>k it (by simp) o q⟩
  item:=by
    intro X hP hw hK hc i pins s σ H E I hf st hg
    subst hP hw hK
    obtain⟨⟨old,he⟩,h1⟩:=st
    obtain⟨xs,x,q1,hx⟩:=hg
    obtain⟨its1,r1,p1,z1⟩:=I.list q1
    obtain⟨u,hu,ru⟩:=r1.get hx
    have hil:=p1.isList
    have nli:l≠it:=fun z=>by
      subst z
      obtain⟨o,ho,c,_⟩:=hil
      obtain⟨o',ho',c',_⟩:=h1
      rw[ho] at ho'
      cases ho'
      rw[c] at c'
      exact absurd c' (by decide)
    have nle:e≠l:=fun z=>by
      subst z
      obtain⟨o,ho,c,_⟩:=hil
      rw[show s.heap.get? e=_ from he] at ho
      cases ho
      exact absurd (show Value.type "enumerate"=Value.type "list" from c) (by decide)
    have hlt:i<its1.toArray.size:=by
      have:=List.getElem?_eq_some_iff.mp hu
      obtain⟨z,_⟩:=this
      simpa using z
    have D:Draws X.prog X.w X.A.in1 it [it,l] (its1.toArray.size+1) (fun i v=>its1.toArray[i-1]?=some v) (fun i h=>1≤i∧h.IsListIter it l (i-1)∧h.IsList l its1.toArray):=draws_shift (Draws.list (A:=X.A.in1) (I.ok.hd hc) it l nli its1.toArray)
    refine wpAny_pyNext_enum_itemD (i:=i+1) D he ⟨Nat.succ_le_succ (Nat.zero_le i),h1,hil⟩ (Nat.succ_lt_succ hlt) hne (fun z=>by rcases List.mem_cons.mp z with z | z;exact hne z;exact nle (List.mem_singleton.mp z)) fun u' h' tk pu a1 a2 a3 a4 a5=>⟨_,rfl,?_⟩
    have eu:u'=u:=by
      have z:its1.toArray[i]?=some u':=pu
      rw[show its1.toArray[i]?=its1[i]? by simp,hu] at z
      exact(Option.some.inj z).symm
    subst eu
    refine wpAny_letOwnedTupleGo_enum a1 fun h'' b1 hs=>?_
    have lt:∀c o,s.heap.get? c=some o→c≠s.heap.objs.size:=fun c o e=>Nat.ne_of_lt (Heap.lt_size e)
    have lte:s.heap.objs.size≠e:=(lt e _ he).symm
    have I1:Inv X pins σ H { s with heap:=h'',toks:=tk+1 }:=I.turnedL (t':=tk+1) (fun c o hb e=>(hs.2 c (fun q=>hb (by simp[q]))).trans (a5 c o (fun q=>hb (by simp[q])) (fun q=>hb (by simp[q])) e)) hf
    have ht:h''.get? s.heap.objs.size=some { cls:=.type "tuple",data:=.seq #[.int ((i+1:Nat):Int) tk,u'] }:=(hs.2 _ lte).trans a3
    have hn:H s.heap.objs.size=none:=I.hok.fresh (Nat.le_refl _)
    have I2:Inv X pins σ (upd H s.heap.objs.size (.tup [.int ((i:Int)+1),x])) { s with heap:=h'',toks:=tk+1 }:=by
      refine I1.track hn (Heap.get?_none_of_le I.sz) (Nat.ne_of_lt I.lt).symm (fun y c q=>?_) (fun p hp=>?_) (I.nofs (Nat.le_refl _)) ⟨by show 2≤sizeLine;decide,[.int ((i+1:Nat):Int) tk,u'],.cons ⟨_,rfl⟩ (.cons ru .nil),_,ht,rfl,_,rfl⟩
      · obtain⟨_,o,ho,_⟩:=I.cell y c q
        exact lt c o ho
      · exact lt _ _ (I.pin p hp).1
    refine⟨.ref s.heap.objs.size,_,I2,rfl,⟨_,x,rfl,hn,rfl,fun xs' q=>?_⟩,⟨⟨u',?_⟩,a2.2.1.at fun o e=>(hs.2 _ hne.symm).trans e⟩,fun c hb=>?_⟩
    · rw[I.list_inj q q1];exact hx
    · rw[show((i+1+1:Nat):Int)=((i+1:Nat):Int)+1 by push_cast;rfl]
      exact b1
    · obtain⟨o,ho,_⟩:∃o,s.heap.get? c=some o∧True:=by
        simp only[List.mem_cons,List.not_mem_nil,or_false] at hb
        rcases hb with rfl | rfl
        · exact⟨_,he,trivial⟩
        · obtain⟨o,ho,_⟩:=h1;exact⟨o,ho,trivial⟩
      rw[upd_ne (lt c o ho)]
      exact(hf c hb).1
  done:=by
    intro X hP hw hK hc i pins s σ H E I hf st hg
    subst hP hw hK
    obtain⟨⟨old,he⟩,h1⟩:=st
    obtain⟨xs,q1,hend⟩:=hg
    obtain⟨its1,r1,p1,z1⟩:=I.list q1
    have e1:=r1.length
    have hil:=p1.isList
    have hno:its1.toArray[i]?=none:=by simp;omega
    have D:Draws X.prog X.w X.A.in1 it [it,l] 0 (fun _ _=>True) (fun _ h=>h.IsListIter it l i∧h.IsList l its1.toArray):=⟨fun _ _ st=>let ⟨o,ho,_⟩:=st.1;⟨o,ho⟩,fun _ _ _ st hk=>⟨st.1.at fun o e=>hk it (by simp) o e,st.2.at fun o e=>hk l (by simp) o e⟩,fun _ _ _ _ hi=>absurd hi (Nat.not_lt_zero _),fun s Q E st hE=>wpAny_nextOf_list_end (I.ok.hd hc) st.1 st.2 hno hE⟩
    exact wpAny_pyNext_enum_endD D he ⟨h1,hil⟩ fun h' k=>⟨rfl,I.turnedL (t':=s.toks) (fun c o hb e=>k c o (fun q=>hb (by simp[q])) e) hf⟩
  self:=fun _ _ _ _ _ ⟨⟨_,he⟩,_⟩ h=>wpAny_pyIter_enum he h
def iEnumS (K:PySem.W.Frag) (ta:TA):TI:=fun σ H R=>ta σ H fun vs H1=>∃l,vs=[.ref l]∧(∃xs,SqL K H1 l xs)∧R (IteS K l) H1
theorem pi_enumS {X:Cx}{elts:List Expr} {x1}{tpos:Pos}{a e:Expr}{ta:TA}{p pos kp:Pos} (hg:Gl X "enumerate") (hm:X.mg "enumerate"=none) (ha:PA X [a] ta) (hk:PE X e (tC (.int 1)))
    (he:starEach [a] X.env=[(false,eval a X.env)]:=by rfl) (hpl:((backTo pos (starEach [a] X.env)).any (·.1)||(backToKw pos (keywordEach [⟨some "start",e,kp⟩] X.env)).any (·.1.isNone))=false:=by rfl)
    (hall:(backToKw pos (keywordEach [⟨some "start",e,kp⟩] X.env)).all (·.1.isSome)=true:=by rfl) (hks:(backToKw pos (keywordEach [⟨some "start",e,kp⟩] X.env)).filterMap (·.1)=[("start":Str)]:=by rfl) :
    PI X (.Tuple elts x1 tpos) (.Call (.Name "enumerate" p) [a] [⟨some "start",e,kp⟩] pos) (iEnumS X.K ta):=by
  intro pins s σ H R I h
  refine wpAny_Call_Name_kw (ld_blt I hg hm bt_enum ?_ (by decide) (by decide))
  refine PySem.W.callWith_of (P:=fun _=>True) hpl (fun _ _=>⟨.machine,.inr (.inl rfl),PySem.W.Looks.of_pure rfl⟩) (PyProof.Rows.evalArgs_kw2 hall (thn (ha pos pins s σ H _ I h) fun us s1 ⟨vs,H1,I1,r1,q1⟩=>?_) he)
  obtain⟨l,e1,⟨xs,q1⟩,q⟩:=q1
  subst e1
  refine thn (pk_cons hk pk_nil pos pins s1 σ H1 (fun zs H2=>zs=[.int 1]∧H2=H1) I1 ⟨rfl,rfl⟩) fun ws s2 ⟨zs,H2,I2,rz,ez,eh⟩=>⟨trivial,?_⟩
  subst ez eh
  obtain⟨u,rfl,ru⟩:=vals1 r1
  cases (show u=Value.ref l from ru)
  obtain⟨k1,rfl,rk⟩:=vals1 rz
  obtain⟨tk,rfl⟩:=(show ∃tk,k1=Value.int 1 tk from rk)
  rw[hks]
  obtain⟨its1,r1,p1,z1⟩:=I2.list q1
  refine call_enum_start (by decide) p1.isList fun h' hE hI hk=>?_
  refine wpAny_pyIter_enum hE ?_
  have I3:Inv X pins σ H2 { s2 with heap:=h' }:=I2.kept (t':=s2.toks) hk
  refine⟨_,[s2.heap.objs.size+1,s2.heap.objs.size],_,_,H2,rfl,I3,turn_enumS (Nat.succ_ne_self _),⟨⟨_,hE⟩,hI⟩,fun c hc=>?_,q⟩
  have hge:s2.heap.objs.size≤c:=by
    simp only[List.mem_cons,List.not_mem_nil,or_false] at hc
    rcases hc with h | h
    all_goals first | (rw[h];exact Nat.le_add_right _ _) | exact Nat.le_of_eq h.symm
  have:=I2.fpOk (H':=H2) hge (I2.hok.fresh hge)
  exact this
theorem for_enumS {K:PySem.W.Frag}{l:Addr}{xs:List V}{g:TG}{tb:TS}{D:Ends}{σ:St}{H:Hp} (Pv:Nat→St→Hp→Prop) (h0:Pv 0 σ H) (hl:∀i σ H,i≤xs.length→Pv i σ H→SqL K H l xs)
    (hs:∀i x t σ H,xs[i]?=some x→H t=none→Pv i σ H→g (.ref t) σ (upd H t (.tup [.int ((i:Int)+1),x])) fun σ2 H2=>tb { D with nx:=Pv (i+1),ct:=Pv (i+1),bk:=D.nx } σ2 H2) (hd:∀σ H,Pv xs.length σ H→D.nx σ H) :
    ∃W:Nat→Nat→St→Hp→Prop,(∃m,W 0 m σ H)∧∀i m σ H,W i m σ H →
      ((IteS K l).stop i H∧D.nx σ H)∨((IteS K l).go i H∧∃N:St→Hp→Prop,(∀σ' H',N σ' H'→∃m',m'<m∧W (i+1) m' σ' H')∧∀x H',(IteS K l).yld i H x H'→g x σ H' fun σ2 H2=>tb { D with nx:=N,ct:=N,bk:=D.nx } σ2 H2):=by
  refine⟨fun i m σ H=>Pv i σ H∧i≤xs.length∧m=xs.length-i,⟨_,h0,Nat.zero_le _,rfl⟩,?_⟩
  rintro i m σ H ⟨hp,hi,rfl⟩
  have q1:=hl i σ H hi hp
  rcases Nat.lt_or_ge i xs.length with hlt | hge
  · right
    obtain⟨x,hx⟩:∃x,xs[i]?=some x:=⟨_,List.getElem?_eq_getElem hlt⟩
    refine⟨⟨xs,x,q1,hx⟩,Pv (i+1),fun σ' H' h=>⟨_,Nat.sub_lt_sub_left hlt (Nat.lt_succ_self _),h,hlt,rfl⟩,?_⟩
    rintro v H' ⟨t,x',rfl,hn,rfl,e1⟩
    have e1':=e1 xs q1
    rw[hx] at e1'
    cases e1'
    exact hs i x t σ H hx hn hp
  · left
    obtain rfl:i=xs.length:=Nat.le_antisymm hi hge
    exact⟨⟨xs,q1,Nat.le_refl _⟩,hd σ H hp⟩
end L2
set_option Elab.async false
set_option linter.all false
set_option maxRecDepth 100000
namespace L2
open PySem PySem.Spec PyProof.Rows
open PySem.StrLaws PySem.Builtin PySem.Builtin.Str
section
theorem at_c (hy:y.cps.toList=c::r){k:Nat} (h:At x y x.length k):x.cps.toList[k]?=some c:=by
  have z:=h.2
  rw[subAt_eq] at z
  have z:=eq_of_beq z
  have ly:y.length=r.length+1:=by
    have:y.length=y.cps.toList.length:=by simp[Str.length]
    rw[this,hy]
    rfl
  rw[hy,ly] at z
  have e:=congrArg (fun l=>l[0]?) z
  rw[List.getElem?_take_of_lt (by omega),List.getElem?_drop] at e
  exact e
theorem parts_join (hy:y.cps.toList=c::r):∀(ps:List Str) (a f:Nat) (cuts:List Nat),ps≠[]→a≤x.length→x.cps.toList.drop a=(Str.join y ps).cps.toList→(∀p∈ps,c∉p.cps.toList) →
    ChainG x y x.length a cuts f→(∀k,f≤k→¬At x y x.length k)→partsFrom x y.length a cuts=ps:=by
  have hn:x.cps.toList.length=x.length:=by simp[Str.length]
  have ly:y.length=r.length+1:=by
    have:y.length=y.cps.toList.length:=by simp[Str.length]
    rw[this,hy]
    rfl
  have mem_at:∀{a k:Nat}{L:List Nat},x.cps.toList.drop a=L→a≤k→x.cps.toList[k]?=some c→L[k-a]?=some c:=fun {a k L} e h1 h2=>by
    rw[← e,List.getElem?_drop,show a+(k-a)=k by omega]
    exact h2
  intro ps
  induction ps with
  | nil=>intro a f cuts h;exact absurd rfl h
  | cons p t ih =>
    intro a f cuts _ ha hx hp hG hN
    cases t with
    | nil =>
      have hx:x.cps.toList.drop a=p.cps.toList:=hx
      cases cuts with
      | cons d q =>
        have z:=mem_at hx hG.1 (at_c hy hG.2.1)
        exact absurd (List.mem_of_getElem? z) (hp p List.mem_cons_self)
      | nil =>
        show [strSub x a x.length]=[p]
        refine congrArg (fun z=>[z]) ?_
        apply Str.ext'
        apply Array.toList_inj.mp
        rw[strSub_toList,List.take_of_length_le (by rw[List.length_drop,hn];exact Nat.le_refl _),hx]
    | cons q t =>
      have hx:x.cps.toList.drop a=(p++y++Str.join y (q::t)).cps.toList:=hx
      rw[Str.cps_append,Str.cps_append,Array.toList_append,Array.toList_append] at hx
      have lp:p.cps.toList.length=p.length:=by simp[Str.length]
      have lyl:y.cps.toList.length=y.length:=by simp[Str.length]
      have tot:x.length-a=p.length+y.length+(Str.join y (q::t)).cps.toList.length:=by
        have z:=congrArg List.length hx
        rw[List.length_drop,List.length_append,List.length_append,hn,lp,lyl] at z
        exact z
      have hat:At x y x.length (a+p.length):=by
        refine⟨by omega,?_⟩
        rw[subAt_eq,← List.drop_drop,hx,List.append_assoc,← lp,List.drop_left,← lyl,List.take_left]
        exact beq_self_eq_true _
      have hd:∃rest,cuts=(a+p.length)::rest∧ChainG x y x.length (a+p.length+y.length) rest f:=by
        cases cuts with
        | nil =>
          have e:f=a:=hG
          exact absurd hat (hN _ (by omega))
        | cons d rest =>
          obtain⟨h1,h2,h3,h4⟩:=hG
          rcases Nat.lt_trichotomy d (a+p.length) with h | h | h
          · have z:=mem_at hx h1 (at_c hy h2)
            rw[List.append_assoc,List.getElem?_append_left (by rw[lp];omega)] at z
            exact absurd (List.mem_of_getElem? z) (hp p List.mem_cons_self)
          · subst h
            exact⟨rest,rfl,h4⟩
          · exact absurd hat (h3 _ (by omega) h)
      obtain⟨rest,rfl,hG'⟩:=hd
      show strSub x a (a+p.length)::partsFrom x y.length (a+p.length+y.length) rest=p::q::t
      have e1:strSub x a (a+p.length)=p:=by
        apply Str.ext'
        apply Array.toList_inj.mp
        rw[strSub_toList,hx,show a+p.length-a=p.cps.toList.length by rw[lp];omega,List.append_assoc,List.take_left]
      rw[e1,ih (a+p.length+y.length) f rest (fun z=>nomatch z) (by omega) ?_ (fun s hs=>hp s (List.mem_cons_of_mem _ hs)) hG' hN]
      rw[Nat.add_assoc,← List.drop_drop,hx,← List.drop_drop,← lp,List.append_assoc,List.drop_left,← lyl,List.drop_left]
theorem kind_ge (x:Str):1≤Builtin.Str.strKind x:=by
  unfold Builtin.Str.strKind
  split
  · exact Nat.le_refl _
  · split <;> decide
theorem split_join (hy:y.cps.toList=c::r) (hk:Builtin.Str.strKind y=1){ps:List Str} (h0:ps≠[]) (hp:∀p∈ps,c∉p.cps.toList):Txt.split (Txt.join y ps) y=ps:=by
  have ej:Txt.join y ps=Str.join y ps:=glued_eq_join y ps
  rw[ej]
  have ly:y.length=r.length+1:=by
    have:y.length=y.cps.toList.length:=by simp[Str.length]
    rw[this,hy]
    rfl
  obtain⟨f,hG,hn⟩:=occ_tight (Str.join y ps) y (by omega)
  have key:=parts_join (x:=Str.join y ps) hy ps 0 f _ h0 (Nat.zero_le _) rfl hp hG hn
  unfold Txt.split
  split
  · rename_i hc
    rw[Bool.or_eq_true,decide_eq_true_eq,decide_eq_true_eq,hk] at hc
    have:=kind_ge (Str.join y ps)
    have hlt:(Str.join y ps).length<y.length:=by omega
    generalize occurrences (Str.join y ps) y 0 (Str.join y ps).length ((Str.join y ps).length+1)=cuts at key hG
    cases cuts with
    | nil =>
      have key:[strSub (Str.join y ps) 0 (Str.join y ps).length]=ps:=key
      rw[sub_whole] at key
      exact key
    | cons d q =>
      have:=hG.2.1.1
      omega
  · split
    · rename_i he
      have e0:=List.isEmpty_iff.mp he
      rw[e0] at key
      have key:[strSub (Str.join y ps) 0 (Str.join y ps).length]=ps:=key
      rw[sub_whole] at key
      exact key
    · rw[partsBetween_eq]
      exact key
def dg (m:Nat):List Nat:=(Nat.toDigits 10 m).map Char.toNat
def nW (i:Int):Str:=Str.ofString (toString i)
theorem nW_nat (m:Nat):(nW (m:Int)).cps.toList=dg m:=PySem.W.KIN.signs_num m
theorem nW_neg (k:Nat):(nW (Int.negSucc k)).cps.toList=45::dg (k+1):=by
  unfold nW
  rw[signs_ofString]
  show(("-":String)++Nat.repr (k+1)).toList.map Char.toNat=_
  rw[String.toList_append,List.map_append,Nat.toList_repr]
  rfl
theorem dg_dig (m:Nat):PySem.NumText.AllDigits (dg m):=by
  intro c hc
  obtain⟨ch,hch,e⟩:=List.mem_map.mp hc
  have r:=digit_range (Nat.isDigit_of_mem_toDigits (by decide) (by decide) hch)
  rw[← e]
  exact r
theorem dg_ne (m:Nat):dg m≠[]:=by
  intro e
  have h:=PySem.W.KIN.val_back m
  have h0:Nat.toDigits 10 m=[]:=List.map_eq_nil_iff.mp e
  have:=toDigits_len_ge 10 m
  rw[h0] at this
  exact absurd this (by decide)
theorem dg_head:∀(m:Nat),(dg m)[0]?=some 48→m=0:=by
  intro m
  induction m using Nat.strongRecOn with
  | _ m ih =>
    intro h
    by_cases hm:m<10
    · unfold dg at h
      rw[Nat.toDigits_of_lt_base hm] at h
      have h:(Nat.digitChar m).toNat=48:=Option.some.inj h
      have z:=PySem.W.KIN.digit_back m hm
      omega
    · exfalso
      have hr:m%10<10:=Nat.mod_lt m (by decide)
      have t:Nat.toDigits 10 (m/10)++Nat.toDigits 10 (m%10)=Nat.toDigits 10 (10*(m/10)+m%10):=Nat.toDigits_append_toDigits (by decide) (by omega) hr
      rw[Nat.div_add_mod] at t
      have e:dg m=dg (m/10)++dg (m%10):=by
        unfold dg
        rw[← t,List.map_append]
      rw[e] at h
      have ne:=dg_ne (m/10)
      have pos:0<(dg (m/10)).length:=List.length_pos_iff.mpr ne
      rw[List.getElem?_append_left pos] at h
      have:=ih (m/10) (by omega) h
      omega
theorem dg_len (hk:0<k) (h:m<10^k):(dg m).length≤k:=by
  have z:=toString_length_le (v:=(m:Int)) (Int.natCast_nonneg m) hk (by exact_mod_cast h)
  have e:(Str.ofString (toString (m:Int))).length=(Str.ofString (toString (m:Int))).cps.toList.length:=by simp[Str.length]
  rw[e,PySem.W.KIN.signs_num] at z
  exact z
theorem str_len (x:Str):x.length=x.cps.toList.length:=by simp[Str.length]
theorem nW_int (h:i.natAbs<10^60):PySem.intText? (nW i)=some i∧(nW i).length≤640:=by
  cases i with
  | ofNat m =>
    have e:=nW_nat m
    have hl:(nW (m:Int)).length≤60:=by rw[str_len,e];exact dg_len (by decide) h
    refine⟨?_,Nat.le_trans hl (by decide)⟩
    have z:=PySem.intText_digits (x:=nW (m:Int)) (by rw[e];exact dg_dig m) (by rw[e];exact dg_ne m) (Nat.le_trans hl (by decide))
    rw[e] at z
    rw[show PySem.NumText.digitsVal (dg m)=m from PySem.W.KIN.val_back m] at z
    exact z
  | negSucc k =>
    have e:=nW_neg k
    have hl:(nW (Int.negSucc k)).length≤61:=by rw[str_len,e];exact Nat.succ_le_succ (dg_len (by decide) h)
    refine⟨?_,Nat.le_trans hl (by decide)⟩
    have z:=PySem.intText_neg e (dg_dig _) (dg_ne _) (Nat.le_trans hl (by decide))
    rw[show PySem.NumText.digitsVal (dg (k+1))=k+1 from PySem.W.KIN.val_back (k+1)] at z
    exact z
theorem ascii_of {x:Str} (h:∀c∈x.cps.toList,c<128):(x.cps.all fun x=>decide (x<128))=true:=by
  rw[← Array.all_toList,List.all_eq_true]
  intro c hc
  exact decide_eq_true (h c hc)
theorem str_ext {x y:Str} (h:x.cps.toList=y.cps.toList):x=y:=Str.ext' (Array.toList_inj.mp h)
theorem slice_from (x:Str){k:Nat} (hk:k≤x.length):(Txt.slice x (some (k:Int)) none).cps.toList=x.cps.toList.drop k:=by
  have hn:x.cps.toList.length=x.length:=by simp[Str.length]
  have e:Txt.slice x (some (k:Int)) none=if ((strSliceIndices (some (k:Int)) none 1 x.length).length == x.length)=true then x else ⟨(List.filterMap (fun i=>x.cps[i]?) (strSliceIndices (some (k:Int)) none 1 x.length)).toArray⟩:=rfl
  rw[e,sliceIdx_none_hi]
  split
  · rename_i h
    rw[strSliceIndices_plain hk (Nat.le_refl _),List.length_map,List.length_range] at h
    have h:=eq_of_beq h
    have:k=0:=by omega
    subst this
    rfl
  · show List.filterMap _ _=_
    rw[sliced_plain x hk (Nat.le_refl _),List.take_of_length_le (by rw[List.length_drop,hn];exact Nat.le_refl _)]
theorem starts_one (x:Str) (c:Nat):Txt.startswith x ⟨#[c]⟩=decide (x.cps.toList[0]?=some c):=by
  have z:=subAt_one x c 0
  unfold Txt.startswith
  by_cases h:x.cps.toList[0]?=some c
  · obtain⟨h1,h2⟩:=z.mpr h
    rw[decide_eq_true h,h2,decide_eq_true h1]
    rfl
  · rw[decide_eq_false h]
    refine Bool.eq_false_iff.mpr fun y=>h (z.mp ?_)
    rw[Bool.and_eq_true,decide_eq_true_eq] at y
    exact y
def figW (n:Int):Str:=nW (n.natAbs:Int)
theorem nW_starts (n:Int):Txt.startswith (nW n) ("-":Str)=decide (n<0):=by
  rw[show("-":Str)=⟨#[45]⟩ from rfl,starts_one]
  cases n with
  | ofNat m =>
    rw[show nW (Int.ofNat m)=nW (m:Int) from rfl,nW_nat,decide_eq_false (show ¬Int.ofNat m<0 from Int.not_lt.mpr (Int.natCast_nonneg m))]
    refine decide_eq_false fun h=>?_
    have:=dg_dig m 45 (List.mem_of_getElem? h)
    omega
  | negSucc k =>
    rw[nW_neg,decide_eq_true (show Int.negSucc k<0 by omega)]
    rfl
theorem nW_cut {n:Int} (h:n<0):Txt.slice (nW n) (some 1) none=figW n:=by
  refine str_ext ?_
  cases n with
  | ofNat m=>exact absurd h (Int.not_lt.mpr (Int.natCast_nonneg m))
  | negSucc k =>
    have hl:1≤(nW (Int.negSucc k)).length:=by rw[str_len,nW_neg];exact Nat.succ_le_succ (Nat.zero_le _)
    have z:=slice_from (nW (Int.negSucc k)) (k:=1) hl
    rw[nW_neg] at z
    refine Eq.trans z ?_
    unfold figW
    rw[show((Int.negSucc k).natAbs:Int)=((k+1:Nat):Int) from rfl,nW_nat]
    rfl
theorem figW_pos (h:¬n<0):nW n=figW n:=by
  unfold figW
  rw[show(n.natAbs:Int)=n by omega]
theorem figW_len (hk:0<k) (h:n.natAbs<10^k):1≤(figW n).length∧(figW n).length≤k:=by
  unfold figW
  rw[str_len,nW_nat]
  exact⟨List.length_pos_iff.mpr (dg_ne _),dg_len hk h⟩
theorem figW_zero:Txt.startswith (figW n) ("0":Str)=true→nW n=("0":Str):=by
  rw[show("0":Str)=⟨#[48]⟩ from rfl,starts_one]
  intro h
  have h:=of_decide_eq_true h
  unfold figW at h
  rw[nW_nat] at h
  have z:=dg_head _ h
  have:n=0:=by omega
  subst this
  rfl
theorem figW_mem (h:c∈(figW n).cps.toList):48≤c∧c≤57:=by
  unfold figW at h
  rw[nW_nat] at h
  exact dg_dig _ c h
theorem in_figs (h:48≤c∧c≤57):(!(Builtin.Str.occurrences ("0123456789":Str) ⟨#[c]⟩ 0 ("0123456789":Str).length 1).isEmpty)=true:=by
  rw[found_one]
  have e:("0123456789":Str).cps.toList=[48,49,50,51,52,53,54,55,56,57]:=by decide +kernel
  rw[e]
  refine decide_eq_true ?_
  have:c=48∨c=49∨c=50∨c=51∨c=52∨c=53∨c=54∨c=55∨c=56∨c=57:=by omega
  rcases this with h | h | h | h | h | h | h | h | h | h <;> subst h <;> decide
theorem nW_free (hc:c≠45∧(c<48∨57<c)) (n:Int):c∉(nW n).cps.toList:=int_text_free' c hc n
end
end L2
set_option Elab.async false
set_option linter.all false
set_option maxRecDepth 100000
namespace L2
open PySem PySem.Spec PyProof.Rows
section
variable {M:Model}{A:Around}{E:Value→Shared→Prop}{s:Shared}
theorem note_same {e:Value}{v w:Env} (h:v.frame=w.frame):noteFrame e v=noteFrame e w:=by
  unfold noteFrame PySem.frameOf
  rw[h]
theorem ff_less {h B B1:Heap} (k:∀b,B.get? b=none→B1.get? b=none):∀{l:List Env},h.FunFrames B l→h.FunFrames B1 l
  | [],_=>trivial
  | _::_,⟨a,⟨L,o,f,n,g,d⟩,r⟩=>⟨a,⟨L,o,f,k L n,g,d⟩,ff_less k r⟩
theorem ff_to {h h1 B:Heap}:∀{l:List Env},h.FunFrames B l→(∀b∈frs l,∀o,h.get? b=some o→∃sl,h1.get? b=some { o with slots:=sl })→h1.FunFrames B l
  | [],_,_=>trivial
  | v::l,⟨a,⟨L,o,f,n,g,d⟩,r⟩,k=>by
    obtain⟨sl,z⟩:=k L (by unfold frs;rw[List.filterMap_cons,f];exact List.mem_cons_self) o g
    exact⟨a,⟨L,_,f,n,z,d⟩,ff_to r fun b hb=>k b (by unfold frs;rw[List.filterMap_cons,f];exact List.mem_cons_of_mem _ hb)⟩
theorem leaves_any {B:Heap}{env:Env}{outer:List Env}{L e:Addr}{c a0 fl:Value}{Q:Unit→Shared→Prop} (hfr:A.frames=some (env::outer)) (hf:env.frame=some L)
    (k1:B.StaysIn s.heap) (k2:B.get? e=none) (k3:s.heap.FunFrames B (env::outer)) (k4:s.heap.TracedAtW B e c a0 fl)
    (hQ:∀h',Heap.FlyingW B outer e c a0 h'→s.heap.UpToSlots h'→Q () { s with heap:=h' }):wpAny M A (leaving env (.ref e)) Q E s:=by
  obtain⟨oe,vs,T,oT,ts,he,⟨hc,h0⟩,hd,h1,hnT,hTe,hT,hdT,h3⟩:=k4
  have other:∀b,b≠T→∀x,(s.heap.update T (Obj.mapFields (·.setIfInBounds 3 x))).get? b=s.heap.get? b:=fun b hb x=>Heap.get?_update_other _ _ (Ne.symm hb)
  have noT:∀b o,s.heap.get? b=some o→(∀vs,o.data≠.fields vs)→b≠T:=fun b o hb hn q=>by
    rw[q,hT] at hb
    cases hb
    exact hn ts hdT
  have hsz:3<ts.size:=(Array.getElem?_eq_some_iff.mp h3).1
  by_cases hl:fl=rawInt L
  · subst hl
    unfold leaving
    refine wpAny_bind (wpAny_noteFrame_againW hf ⟨oe,vs,T,oT,ts,he,⟨hc,h0⟩,hd,h1,hnT,hTe,hT,hdT,h3⟩ ?_)
    refine wpAny_setFlight_noneW k1 k3 ⟨oe,vs,T,oT,ts,he,⟨hc,h0⟩,hd,h1,hnT,hTe,hT,hdT,h3⟩ fun h' x1 x2 x3 x4=>hQ h' ⟨x1,k2,x2.2.2,x3⟩ fun b o hb hn=>⟨o.slots,x4 b o hb hn⟩
  · unfold leaving noteFrame
    simp only[hf]
    refine wpAny_bind (wpAny_bind (wpAny_field he hd h1 ?_))
    rw[if_pos (show(Value.ref T != Value.none)=true from by simp)]
    refine wpAny_bind (wpAny_field hT hdT h3 ?_)
    rw[if_neg (show ¬((fl == rawInt L)=true) from fun q=>hl (beq_iff_eq.mp q))]
    refine wpAny_bind (wpAny_setField hT hdT hsz ?_)
    subst hc
    refine wpAny_newEntryW hfr (k3.of_keeps fun b o hb hn=>⟨o,(other b (noT b o hb hn) _).trans hb,rfl⟩) hf ((other e (Ne.symm hTe) _).trans he)
      (fun b o q=>(other b (fun z=>by rw[z,hnT] at q;cases q) _).trans (k1 b o q)) k2 hd (Array.getElem?_eq_some_iff.mp h1).1 h0 fun h' ⟨x1,x2,x3,x4⟩=>hQ h' ⟨x1,k2,x2.2.2,x3⟩ fun b o hb hn=>x4 b o ((other b (noT b o hb hn) _).trans hb) hn
theorem pass_any {B:Heap}{env:Env}{l:List Env}{e:Addr}{c a0 fl:Value}{what:String}{Q:Value→Shared→Prop}
    (k1:B.StaysIn s.heap) (k3:s.heap.FunFrames B l) (k4:s.heap.TracedAtW B e c a0 fl)
    (hQ:∀h' fl',B.StaysIn h'→h'.FunFrames B l→h'.TracedAtW B e c a0 fl'→s.heap.UpToSlots h'→DK s.heap h'→E (.ref e) { s with heap:=h' }):wpAny M A (PySem.passOn what (.ref e) env:Sem Value) Q E s:=by
  obtain⟨oe,vs,T,oT,ts,he,hc,hd,h1,hnT,hTe,hT,hdT,h3⟩:=k4
  have other:∀b,b≠T→∀x,(s.heap.update T (Obj.mapFields (·.setIfInBounds 3 x))).get? b=s.heap.get? b:=fun b hb x=>Heap.get?_update_other _ _ (Ne.symm hb)
  have noT:∀b o,s.heap.get? b=some o→(∀vs,o.data≠.fields vs)→b≠T:=fun b o hb hn q=>by
    rw[q,hT] at hb
    cases hb
    exact hn ts hdT
  have hsz:3<ts.size:=(Array.getElem?_eq_some_iff.mp h3).1
  unfold PySem.passOn
  refine wpAny_bind (wpAny_field he hd h1 ?_)
  rw[if_neg (show ¬((Value.ref T == Value.none)=true) from by simp)]
  unfold setFlight
  refine wpAny_bind (wpAny_bind (wpAny_field he hd h1 ?_))
  rw[if_pos (show(Value.ref T != Value.none)=true from by simp)]
  refine wpAny_setField hT hdT hsz (wpAny_throw (hQ _ (env.frame.elim Value.none fun f=>rawInt f) (fun b o q=>(other b (fun z=>by rw[z,hnT] at q;cases q) _).trans (k1 b o q)) (k3.of_keeps fun b o hb hn=>⟨o,(other b (noT b o hb hn) _).trans hb,rfl⟩) ?_ (fun b o hb hn=>⟨o.slots,(other b (noT b o hb hn) _).trans hb⟩) (.upd (mapF_k 3 (by decide) _))))
  exact⟨oe,vs,T,_,_,(other e (Ne.symm hTe) _).trans he,hc,hd,h1,hnT,hTe,Heap.get?_update_self _ hT (Obj.isFreed_of_fields (Obj.data_mapFields hdT _)),Obj.data_mapFields hdT _,by simp[hsz]⟩
end
def Thru (X:Cx) (e N:Addr) (s':Shared):Prop :=
  wpAny (model X.prog X.w) X.A (noteFrame (.ref e) X.env) (fun _ s1=>(∃m,s1.heap.Ns N m)∧∀h',Heap.SameBut N s1.heap h'→∀(v:Env) (what:String),
    wpAny (model X.prog X.w) X.A (PySem.passOn what (.ref e) v:Sem Value) (fun _ _=>False) X.xe { s1 with heap:=h' }) (fun _ _=>False) s'
structure RaisB (X:Cx) (Ex:XS):Prop where
  thru:∀(pins:List (Addr×Obj)) (σ:St) (H:Hp) (s:Shared) (e C N:Addr) (H':Hp) (s':Shared),Inv X pins σ H s→Fly X.prog X.w X.stack H s e C H' s'→CN s'.heap e→X.s₀.heap.get? N=none→N≠X.env.locals→(∃m,s'.heap.Ns N m)→H' N=none →
    Ex (.ref C) σ H'→Thru X e N s'
section
variable {X:Cx}{pins:List (Addr×Obj)}{σ:St}{H H':Hp}{s s':Shared}{e C N:Addr}
theorem thru_leaves (O:Own X) (I:Inv X pins σ H s) (F:Fly X.prog X.w X.stack H s e C H' s') (cn:CN s'.heap e) (h0:X.s₀.heap.get? N=none) (hl:N≠X.env.locals) (hns:∃m,s'.heap.Ns N m) (hN:H' N=none)
    (k:∀s2,(∀{M:Model}{E:Value→Shared→Prop}{Q:Unit→Shared→Prop},(∀h'',Fly X.prog X.w X.outer X.H₀ X.s₀ e C H' { s' with heap:=h'' }→CN h'' e→Q () { s' with heap:=h'' })→wpAny M X.A (leaving X.env (.ref e)) Q E s2)→X.xe (.ref e) s2):Thru X e N s':=by
  obtain⟨a0,B,fl,hok,th,kp⟩:=F.ex
  have hfr:=I.ok.frames
  have hst:=O.st
  have nfs:N∉X.fs:=fun z=>by
    obtain⟨_,o,ho,_⟩:=I.ok.funs.mem z
    rw[h0] at ho
    cases ho
  have nst:N∉frs X.stack:=fun z=>by
    rcases List.mem_cons.mp (I.stkSub N z) with r | r
    · exact hl r
    · exact nfs r
  obtain⟨mN,oN,es,ep,hoN,hdN,hrN⟩:=hns
  have nN:∀b vs o,s'.heap.get? b=some o→o.data = .fields vs→b≠N:=fun b vs o q d z=>by
    rw[z,hoN] at q
    cases q
    rw[hdN] at d
    cases d
  have less:∀b,B.get? b=none→(PySem.W.hideAll B [N]).get? b=none:=fun b q=>by
    cases z:(PySem.W.hideAll B [N]).get? b with
    | none=>rfl
    | some o=>rw[PySem.W.of_hideAll _ z] at q;cases q
  obtain⟨f1,f2,f3,oe,vs,T,oT,ts,he,hc,hd,h1,hnT,hTe,hT,hdT,h3⟩:=fl
  have fl1:Heap.FlyingW (PySem.W.hideAll B [N]) X.stack e (.ref C) a0 s'.heap:=⟨fun b o q=>f1 b o (PySem.W.of_hideAll _ q),less e f2,ff_less less f3,oe,vs,T,oT,ts,he,hc,hd,h1,less T hnT,hTe,hT,hdT,h3⟩
  unfold Thru
  rw[hst] at fl1 hfr
  refine wpAny_mono ((KD.note (.ref e) _).any (wpAny_looks_onW (Q:=fun _ s2=>∃g,s2={ s' with heap:=g }∧Heap.HeldW (PySem.W.hideAll B [N]) (X.env::X.outer) e (.ref C) a0 X.env.locals g∧s'.heap.UpToSlots g) (E:=fun _ _=>False) hfr O.fr fl1 fun g hh up=>⟨g,rfl,hh,up⟩)) (fun _ s2 ⟨⟨g,e2,hh,up⟩,dk⟩=>?_) fun _ _ z=>z.1
  subst e2
  have cg:CN g e:=cn.dk dk
  refine⟨⟨mN,up.ns ⟨oN,es,ep,hoN,hdN,hrN⟩⟩,fun g' sb v what=>?_⟩
  obtain⟨g1,g2,g3,oe',vs',T',oT',ts',he',hc',hd',h1',hnT',hTe',hT',hdT',h3'⟩:=hh
  obtain⟨sl,hoN'⟩:=up N oN hoN fun vs q=>by rw[hdN] at q;cases q
  have nN':∀b vs o,g.get? b=some o→o.data = .fields vs→b≠N:=fun b vs o q d z=>by
    rw[z,hoN'] at q
    cases q
    rw[hdN] at d
    cases d
  have stf:N∉frs (X.env::X.outer):=by rw[← hst];exact nst
  refine pass_any (B:=PySem.W.hideAll B [N]) (l:=X.env::X.outer) (e:=e) (c:=.ref C) (a0:=a0) (fl:=rawInt X.env.locals) (fun b o q=>?_) (ff_to g3 fun b hb o q=>⟨o.slots,?_⟩)
    ⟨oe',vs',T',oT',ts',?_,hc',hd',h1',hnT',hTe',?_,hdT',h3'⟩ fun g2' fl' y1 y2 y3 y4 y5=>k _ fun {M E Q} hq=>?_
  · have:b≠N:=fun z=>by rw[z,PySem.W.hideAll_none [N] List.mem_cons_self] at q;cases q
    exact(sb.2 b this).trans (g1 b o q)
  · exact(sb.2 b fun z=>stf (z▸hb)).trans q
  · exact(sb.2 e (nN' e vs' oe' he' hd')).trans he'
  · exact(sb.2 T' (nN' T' ts' oT' hT' hdT')).trans hT'
  · have cg':CN g' e:=by
      obtain⟨oc,h1c,h2c⟩:=cg
      exact⟨oc,(sb.2 e (nN' e vs' oe' he' hd')).trans h1c,h2c⟩
    refine wpAny_mono ((KD.leaving (.ref e) _).any (leaves_any (M:=M) (E:=fun _ _=>False) (Q:=fun _ s2=>∃g3',s2={ s' with heap:=g3' }∧Heap.FlyingW (PySem.W.hideAll B [N]) X.outer e (.ref C) a0 g3'∧g2'.UpToSlots g3') (s:={ s' with heap:=g2' }) hfr O.fr y1 g2 y2 y3 fun g3' z1 z2=>⟨g3',rfl,z1,z2⟩)) (fun _ s2 ⟨⟨g3',e2,z1,z2⟩,dk2⟩=>?_) fun _ _ z=>z.1.elim
    subst e2
    refine hq g3' ⟨F.os.trans I.os,F.bare,⟨a0,_,z1,fun a o q=>?_,fun b o q hb=>?_,fun b o q n hb=>?_⟩,fun b o q n hb=>?_,fun b o q n=>?_,fun b xs q=>F.tups b xs (I.base.tups b xs q),fun b o u q=>F.frzs b o u (I.base.frzs b o u q),fun b ps q=>?_⟩ ((cg'.dk y5).dk dk2)
    · refine(hok a o q).stay (fun b u hb z=>PySem.W.hideAll_get _ z fun hm=>?_) (fun _ z=>z) fun _ _ z=>z
      have hbN:b=N:=by simpa using hm
      rcases hb with rfl | hb
      · rw[hbN,hN] at q;cases q
      · rw[hbN,hN] at hb;cases hb
    · obtain⟨o',z⟩:=I.base.there b o q (O.nex b)
      obtain⟨o2,z'⟩:=th b o' z (O.not I q hb)
      refine⟨o2,PySem.W.hideAll_get _ z' fun hm=>?_⟩
      have:b=N:=by simpa using hm
      rw[this,h0] at q;cases q
    · refine PySem.W.hideAll_get _ (kp b o (I.base.keep b o q n hb (O.nex b)) (I.base.free b o q n (O.nex b)) (O.not I q hb)) fun hm=>?_
      have:b=N:=by simpa using hm
      rw[this,h0] at q;cases q
    · obtain⟨sl,z⟩:=I.base.slot b o q n hb (O.nex b)
      obtain⟨sl',z'⟩:=F.slot b _ z (I.base.free b o q n (O.nex b)) (O.sub hb)
      obtain⟨_,o',ho',hnf⟩:=I.ok.funs.mem hb
      rw[q] at ho'
      cases ho'
      obtain⟨s2,w2⟩:=up b _ z' hnf
      have w3:=(sb.2 b fun x=>nfs (x▸hb)).trans w2
      obtain⟨s4,w4⟩:=y4 b _ w3 hnf
      obtain⟨s5,w5⟩:=z2 b _ w4 hnf
      exact⟨s5,w5⟩
    · obtain⟨o',z⟩:=I.base.there b o q (O.nex b)
      exact F.free b o' z (I.base.free b o q n (O.nex b))
    · obtain⟨m1,e1⟩:=I.base.tbls b ps q
      obtain⟨m2,e2⟩:=F.tbls b _ e1
      exact⟨m1++m2,by rw[e2,Array.append_assoc]⟩
end
theorem raisB_def {P:Program}{w:World}{K:PySem.W.Frag}{mg:Str→Option Value}{base:Heap}{N:List Str}{qual:Str}{scope:Scope}{f:Addr}{cd:Value}{A:Around}{outer:List Env}{s:Shared}{H:Hp}{E:XK} :
    RaisB (cxOf (CX1 P w) P w K mg base N qual scope f cd A outer s H E) (fun c _ H'=>E c none H') where
  thru:=fun pins σ H1 s1 e C Nn H' s' I F cn h0 hl hns hN q=>thru_leaves ⟨rfl,rfl,rfl⟩ I F cn h0 hl hns hN fun s2 k=>k fun h'' F' c'=>⟨e,C,H',rfl,F',c',q⟩
def blkX (X:Cx) (NB:List Str) (sc:Scope) (cl:List (Str×Addr)) (s₃:Shared) (H₃:Hp) (fp:List Addr) (Ex:XS):Cx :=
  { blk X NB sc cl s₃ H₃ fp with xe:=fun ev s'=>∃e C pins σ H s H',ev=Value.ref e∧Inv (blk X NB sc cl s₃ H₃ fp) pins σ H s∧Fly X.prog X.w X.stack H s e C H' s'∧CN s'.heap e∧Ex (.ref C) σ H' }
section
variable {X:Cx}{NB:List Str}{sc:Scope}{cl:List (Str×Addr)}{s₃:Shared}{H₃:Hp}{fp:List Addr}{Ex:XS}{pins:List (Addr×Obj)}{σ:St}{H:Hp}{s:Shared}
theorem Inv.bx (I:Inv (blk X NB sc cl s₃ H₃ fp) pins σ H s):Inv (blkX X NB sc cl s₃ H₃ fp Ex) pins σ H s:=by
  obtain⟨⟨o1,o2,o3,o4,o5,o6,o7,o8,o9,o10,o11,o12,o13,o14,o15,o16,o17,o18⟩,i2,i3,i4,i5,i6,i7,i8,i9,i10,i11⟩:=I
  exact⟨⟨o1,o2,o3,o4,o5,o6,o7,o8,o9,o10,o11,o12,o13,o14,o15,o16,o17,o18⟩,i2,i3,i4,i5,i6,i7,i8,i9,i10,i11⟩
theorem Inv.xb (I:Inv (blkX X NB sc cl s₃ H₃ fp Ex) pins σ H s):Inv (blk X NB sc cl s₃ H₃ fp) pins σ H s:=by
  obtain⟨⟨o1,o2,o3,o4,o5,o6,o7,o8,o9,o10,o11,o12,o13,o14,o15,o16,o17,o18⟩,i2,i3,i4,i5,i6,i7,i8,i9,i10,i11⟩:=I
  exact⟨⟨o1,o2,o3,o4,o5,o6,o7,o8,o9,o10,o11,o12,o13,o14,o15,o16,o17,o18⟩,i2,i3,i4,i5,i6,i7,i8,i9,i10,i11⟩
theorem pass_blk:Pass (blkX X NB sc cl s₃ H₃ fp Ex) Ex where
  on:=fun pins σ H s e C H' s' I F cn q=>⟨e,C,pins,σ,H,s,H',rfl,I.xb,F,cn,q⟩
end
section
variable {prog:Program}{w:World}{A:Around}{R:Result→Shared→Prop}{s:Shared}
theorem compLoop_X {elt target iter:Expr}{ifs:List Expr}{scope:Scope}{pos:Pos}{it acc:Value}{env:Env} (W:Nat→Shared→Prop) (Z:Value→Shared→Prop) (hZ:∀e s,Z e s→notedBy (model prog w) A env (fun x s'=>R (.error x) s') e s)
    (turn:∀n s,W n s→wpAny (model prog w) A (pyNext it) (fun r s₁=>match r with
      | none=>R (.ok .next) s₁
      | some v=>wpAny (model prog w) A (letOwnedTupleGo target it v) (fun _ s₀=>wpAny (model prog w) A (assign target env v) (fun _ s₂ =>
          wpAny (model prog w) A (forIn ifs true fun c r=>if r=true then do let ok ← isTrue c env (eval c env);pure (ForInStep.yield ok) else pure (ForInStep.yield r)) (fun ok s₃ =>
            if ok=true then wpAny (model prog w) A (eval elt env) (fun x s₄ =>
              wpAny (model prog w) A (call (.builtin "list.append") [acc,x]) (fun _ s₅=>∃m,m<n∧W m s₅) Z s₄) Z s₃
            else ∃m,m<n∧W m s₃) Z s₂) Z s₀) Z s₁) Z s)
    (n:Nat) (h:W n s) :
    codeAny (model prog w) A (.compLoop (.ListComp elt [⟨target,iter,ifs,0⟩] scope pos) 0 it acc env) R s:=by
  refine codeAny_loop rfl W (fun n s hI=>?_) n h
  show wpAny _ A ((compTurn (.ListComp elt [⟨target,iter,ifs,0⟩] scope pos) 0 it acc env).onRaise (fun x=>do noteFrame x env;theTreesLotGoes x)) _ _ s
  refine wpAny_noted (wpAny_mono (Q:=_) (E:=Z) ?_ (fun _ _ q=>q) hZ)
  rw[compTurn_list]
  refine wpAny_bind (wpAny_standAt (wpAny_bind (thn (turn n s hI) fun r s₁ h₁=>?_)))
  cases r with
  | none=>exact wpAny_pure h₁
  | some v =>
    refine wpAny_bind (thn h₁ fun _ s₀ h₀=>wpAny_bind (thn h₀ fun _ s₂ h₂=>wpAny_bind (thn h₂ fun ok s₃ h₃=>?_)))
    cases ok with
    | false=>exact wpAny_pure ⟨rfl,h₃⟩
    | true=>exact wpAny_bind (wpAny_bind (thn h₃ fun x s₄ h₄=>wpAny_bind (thn h₄ fun _ s₅ h₅=>wpAny_pure (wpAny_pure ⟨rfl,h₅⟩))))
end
section
variable {X:Cx}{NB:List Str}{pick:List (Option Nat)}{sc:Scope}{cl:List (Str×Addr)}{elt target iter:Expr}{ifs:List Expr}{pos:Pos}{wi:TI}{g:TG}{c:TT}{te:TE}{Ex:XS}
theorem Inv.xpins {NB:List Str}{pins:List (Addr×Obj)}{σ:St}{H:Hp}{s s₃:Shared}{H₃:Hp}{fp:List Addr} (I:Inv (blk X NB sc cl s₃ H₃ fp) pins σ H s):Inv (blk X NB sc cl s₃ H₃ fp) [] σ H s :=
  ⟨I.ok,I.os,I.bare,I.base,I.loc,I.cell,I.free,I.freeC,fun p hp=>absurd (show p∈([]:List (Addr×Obj)) from hp) (by simp),I.hok,I.len⟩
theorem pe_compX (B:Blk X NB pick sc cl) (hc:X.calm=true) (O:Own X) (RB:RaisB X Ex) (hi:PI X target iter wi) (Ey:XS) (hEy:∀c σ σ' H,Ey c σ' H→Ex c σ H)
    (hg:∀s₃ H₃ fp,PG (blkX X NB sc cl s₃ H₃ fp Ey) target g) (ht:∀s₃ H₃ fp,PIfs (blkX X NB sc cl s₃ H₃ fp Ey) ifs c) (he:∀s₃ H₃ fp,PE (blkX X NB sc cl s₃ H₃ fp Ey) elt te)
    (hs:∀x,foldedSetIterable iter X.env x=pure x:=by intro _;rfl):PE X (.ListComp elt [⟨target,iter,ifs,0⟩] sc pos) (fun σ H Q=>tComp wi pick g c te σ H fun D H'=>Q (.ref D) H'):=by
  intro pins s σ H Q I h
  rw[eval_ListComp]
  refine wpAny_comprehension_free (use:=none) rfl hs B.clos B.kind B.names (thn (hi pins s σ H _ I h) fun v s1 h1=>thn h1 fun itv s2 h2=>?_)
  obtain⟨it,fp,tn,J,H2,e,I2,T,st2,f2,h2⟩:=h2
  subst e
  refine wpAny_newObj_type ?_
  have I3:Inv X pins σ (upd H2 s2.heap.objs.size (.lst [])) { s2 with heap:=s2.heap.push { cls:=.type "list",dict:=none,data:=.seq ([]:List Value).toArray } } :=
    I2.laid (t':=s2.toks) (fun b u e=>Heap.get?_push_of_some _ e) (Nat.le_refl _) ⟨Nat.zero_le _,[],0,.nil,Heap.get?_push_size _ rfl⟩
  have hf:H2 s2.heap.objs.size=none:=I2.hok.fresh (Nat.le_refl _)
  have lt:∀b∈fp,b≠s2.heap.objs.size:=fun b hb=>by
    obtain⟨o,ho,_⟩:=T.obj _ _ st2 b hb
    exact Nat.ne_of_lt (Heap.lt_size ho)
  have f3:∀b∈fp,FpOk X pins (upd H2 s2.heap.objs.size (.lst [])) b:=fun b hb=>⟨by rw[upd_ne (lt b hb)];exact(f2 b hb).1,(f2 b hb).2⟩
  generalize hs3:({ s2 with heap:=s2.heap.push { cls:=.type "list",dict:=none,data:=.seq ([]:List Value).toArray } }:Shared)=s3 at I3⊢
  have kp3:∀b o,s2.heap.get? b=some o→s3.heap.get? b=some o:=fun b o e=>by
    rw[← hs3]
    exact Heap.get?_push_of_some _ e
  have hex:∀b∈fp,∃o,s3.heap.get? b=some o:=fun b hb=>by
    obtain⟨o,ho,_⟩:=T.obj _ _ st2 b hb
    exact⟨o,kp3 b o ho⟩
  have st3:tn 0 s3.heap:=T.keep _ _ _ st2 fun b _ o e=>kp3 b o e
  obtain⟨W,⟨m0,w0⟩,turn⟩:=h2 _ hf
  refine wpAny_newFunctionEnv B.nocell (by intro y hy;simp at hy) (fun h₁ hns₁ hsb₁=>?_) B.kind
  have kp4:∀b o,s3.heap.get? b=some o→h₁.get? b=some o:=fun b o e=>(hsb₁.2 b (Nat.ne_of_lt (Heap.lt_size e))).trans (Heap.get?_push_of_some _ e)
  have J4:=blk_start I3 B f3 hex hns₁ kp4 (s3.toks+([]:List (Str×Value)).length)
  have st4:tn 0 h₁:=T.keep _ _ _ st3 fun b _ o e=>kp4 b o e
  have stat:∀{H':Hp},(∀b∈fp,H' b=none)→∀b∈fp,FpOk (blkX X NB sc cl s3 (upd H2 s2.heap.objs.size (.lst [])) fp Ey) [] H' b:=fun {H'} hn b hb=>by
    obtain⟨o,ho⟩:=hex b hb
    refine⟨hn b hb,Nat.ne_of_lt (Heap.lt_size ho),fun z=>?_,.inl hb,fun x a e=>(f2 b hb).2.2.2.2.1 x a (B.sub.of x a e),fun p hp=>absurd (show p∈([]:List (Addr×Obj)) from hp) (by simp)⟩
    rcases List.mem_cons.mp (I2.stkSub b z) with e | e
    · exact(f2 b hb).2.1 e
    · exact(f2 b hb).2.2.1 e
  have fresh:X.s₀.heap.get? s3.heap.objs.size=none:=Heap.get?_none_of_le I3.sz
  have loop:codeAny (model X.prog X.w) X.A (.compLoop (.ListComp elt [⟨target,iter,ifs,0⟩] sc pos) 0 (.ref it) (.ref s2.heap.objs.size) (blk X NB sc cl s3 (upd H2 s2.heap.objs.size (.lst [])) fp).env)
      (compPost (model X.prog X.w) X.A X.xe none (EP X pins σ Q) (.ref s2.heap.objs.size) s3.heap.objs.size) { s3 with heap:=h₁,toks:=s3.toks+([]:List (Str×Value)).length }:=by
    refine compLoop_X (fun n s'=>∃i σ' H',Inv (blkX X NB sc cl s3 (upd H2 s2.heap.objs.size (.lst [])) fp Ey) [] σ' H' s'∧tn i s'.heap∧(∀b∈fp,H' b=none)∧W i n σ' H') (blkX X NB sc cl s3 (upd H2 s2.heap.objs.size (.lst [])) fp Ey).xe ?_ ?_ m0 ⟨0,_,_,J4.bx,st4,fun b hb=>(f3 b hb).1,w0⟩
    · rintro ev sr ⟨e,C,pb,σb,Hb,sb,Hr,rfl,Ib,Fb,cb,qb⟩
      have IX:Inv X pins σ Hb sb:=blk_end I3 f3 Ib.xpins
      have IF:=Fly.inv (X:=blk X NB sc cl s3 (upd H2 s2.heap.objs.size (.lst [])) fp) Fb Ib
      obtain⟨m,hm,_⟩:=IF.loc
      have:=RB.thru pins σ Hb sb e C s3.heap.objs.size Hr sr IX Fb cb fresh (Nat.ne_of_lt I3.lt).symm ⟨m,hm⟩ IF.free (hEy _ _ _ _ qb)
      unfold Thru at this
      show wpAny _ _ (noteFrame (.ref e) _) _ _ _
      rw[note_same (e:=.ref e) (v:=(blk X NB sc cl s3 (upd H2 s2.heap.objs.size (.lst [])) fp).env) (w:=X.env) rfl]
      exact wpAny_mono this (fun _ s1 ⟨n1,n2⟩=>by
        obtain⟨m1,n1⟩:=n1
        exact⟨m1,n1,fun h' sb' cenv _=>n2 h' sb' cenv _⟩) fun _ _ z=>z.elim
    rintro n s5 ⟨i,σ5,H5,I5,st5,fr5,w5⟩
    rcases turn i n σ5 H5 w5 with ⟨stop,qn⟩ | ⟨go,N,hN,step⟩
    · refine thn (T.done (blkX X NB sc cl s3 (upd H2 s2.heap.objs.size (.lst [])) fp Ey) rfl rfl rfl hc i [] s5 σ5 H5 _ I5 (stat fr5) st5 stop) fun r s6 ⟨hr,I6⟩=>?_
      subst hr
      have I6:=I6.xb
      have I':=blk_end I3 f3 I6
      obtain⟨m,hn,_⟩:=I6.loc
      refine⟨m,hn,fun hh hsb=>⟨.ref s2.heap.objs.size,H5,I'.turned (t':=s6.toks) (fun b o hb e=>(hsb.2 b hb).trans e) I6.free (Nat.ne_of_lt I3.lt).symm (.inr I3.sz) (fun x a e=>?_) (fun p hp=>?_),rfl,qn⟩⟩
      · obtain⟨v,o,ho,_⟩:=I3.cell x a e
        exact Nat.ne_of_lt (Heap.lt_size ho)
      · exact Nat.ne_of_lt (Heap.lt_size (I3.pin p hp).1)
    · refine thn (T.item (blkX X NB sc cl s3 (upd H2 s2.heap.objs.size (.lst [])) fp Ey) rfl rfl rfl hc i [] s5 σ5 H5 _ I5 (stat fr5) st5 go) fun r s6 ⟨u,hr,h6⟩=>?_
      subst hr
      refine thn h6 fun _ s7 ⟨x,H7,I7,r7,y7,st7,fr7⟩=>?_
      have I7':=I7.pinned (stat fr7) (T.obj _ _ st7)
      have again:∀{s9:Shared}{σ9:St}{H9:Hp},Inv (blkX X NB sc cl s3 (upd H2 s2.heap.objs.size (.lst [])) fp Ey) ([]++pinsAt fp s7.heap) σ9 H9 s9→N σ9 H9 →
          ∃m,m<n∧∃i σ' H',Inv (blkX X NB sc cl s3 (upd H2 s2.heap.objs.size (.lst [])) fp Ey) [] σ' H' s9∧tn i s9.heap∧(∀b∈fp,H' b=none)∧W i m σ' H':=fun {s9 σ9 H9} I9 n9=>by
        obtain⟨m',hm,w9⟩:=hN σ9 H9 n9
        refine⟨m',hm,i+1,σ9,H9,I9.unpinned,T.keep _ _ _ st7 fun b hb o e=>(I9.pin (b,o) (List.mem_append_right _ (List.mem_append_right _ (mem_pinsAt hb e)))).1,fun b hb=>?_,w9⟩
        obtain⟨o,e,d⟩:=T.obj _ _ st7 b hb
        exact(I9.pin (b,o) (List.mem_append_right _ (List.mem_append_right _ (mem_pinsAt hb e)))).2.1
      have hg':=hg s3 (upd H2 s2.heap.objs.size (.lst [])) fp
      have ht':=ht s3 (upd H2 s2.heap.objs.size (.lst [])) fp
      have he':=he s3 (upd H2 s2.heap.objs.size (.lst [])) fp
      refine thn (hg' _ s7 σ5 H7 x u _ I7' r7 (step x H7 y7)) fun _ s8 ⟨σ8,H8,I8,q8⟩=>?_
      refine thn (ht' _ s8 σ8 H8 _ I8 q8) fun b s9 ⟨H9,I9,q9⟩=>?_
      cases b with
      | false =>
        rw[if_neg Bool.false_ne_true]
        exact again I9 (by rw[if_neg Bool.false_ne_true] at q9;exact q9)
      | true =>
        rw[if_pos rfl] at q9⊢
        refine thn (he' _ s9 σ8 H9 _ I9 q9) fun y s10 ⟨vy,H10,I10,r10,xs,hD,hl,q10⟩=>?_
        refine thn (mt_append _ s10 σ8 H10 (.ref s2.heap.objs.size) [vy] (.ref s2.heap.objs.size) [y] (fun _ H'=>N σ8 H') I10 rfl (.cons r10 .nil) ⟨_,xs,vy,rfl,rfl,hD,hl,q10⟩) fun _ s11 ⟨_,H11,I11,_,q11⟩=>?_
        exact again I11 q11
  refine codeAny_compStart_list loop (T.self _ 0 _ _ _ st4 loop)
end
end L2
set_option Elab.async false
set_option linter.all false
set_option maxRecDepth 100000
namespace L2
open PySem PySem.Spec PyProof.Rows
structure RoomH (k:Nat) (A:Around):Prop where
  dp:A.depth+3*k+5<recursionLimit
  un:A.units+16*k+200<cLine
theorem Room.h {k:Nat}{A:Around} (r:Room k A):RoomH k A:=⟨r.dp,r.un⟩
theorem RoomH.mark {k:Nat}{A:Around} (r:RoomH k A) (v:Option Value):RoomH k (A.mark v):=⟨r.dp,r.un⟩
def CXN:CXT:=fun _ _ _ _ _ _=>False
def cxH (P:Program) (w:World) (K:PySem.W.Frag) (mg:Str→Option Value) (base:Heap) (N:List Str) (qual:Str) (scope:Scope) (f:Addr) (cd:Value) (A:Around) (outer:List Env) (s:Shared) (H:Hp):Cx :=
  { cxOf CXN P w K mg base N qual scope f cd A outer s H (fun _ _ _=>False) with calm:=false,xe:=fun _ _=>False }
structure FnH (P:Program) (w:World) (K:PySem.W.Frag) (mg:Str→Option Value) (base:Heap) (k:Nat) (f:Addr) (fd:FuncData) (ps:List Str) (sp:List V→Hp→VK→Prop):Prop where
  len:∀vs H Q,sp vs H Q→vs.length=ps.length
  run:∀(A:Around) (outer:List Env) (s:Shared) (H:Hp) (args:Args) (us:List Value) (vs:List V) (Q:VK),RoomH k A→Env0 P w K mg base A outer s H→BindsTo s fd args (ps.zip us)→Vals vs us→sp vs H Q →
    codeAny (model P w) A (.call (.ref f) args) (fun r s'=>match r with | .ok (.ret u)=>CE outer P w H s Q u s' | _=>False) s
section
variable {P:Program}{w:World}{K:PySem.W.Frag}{mg:Str→Option Value}{base:Heap}
theorem inv_startH {N ps:List Str}{qual:Str}{scope:Scope}{f:Addr}{cd:Value}{A:Around}{outer:List Env}{s s1:Shared}{H:Hp}{us:List Value}{vs:List V}
    (S:FnScope N ps scope) (e0:Env0 P w K mg base A outer s H) (hl:vs.length=ps.length) (r:Vals vs us)
    (x:InCallC s s.heap.objs.size (bindL (envOfC qual scope s.heap.objs.size f cd).kindOf (ps.zip us) fun _=>none) (cellsFrom (s.heap.objs.size+1) scope.names []) (bindC (envOfC qual scope s.heap.objs.size f cd).kindOf (ps.zip us) fun _=>none) s1) :
    Inv (cxH P w K mg base N qual scope f cd A outer s H) [] (start N vs) H s1:=by
  have e1:Env0 P w K mg base { A with handled:=none } outer s H:=⟨e0.frames,e0.mod,e0.bs,e0.bsz,e0.funs,e0.frf,e0.hok,e0.bare⟩
  have I:=inv_start (CX:=CXN) (E:=fun _ _ _=>False) S rfl e1 hl r x
  obtain⟨⟨o1,o2,o3,o4,o5,o6,o7,o8,o9,o10,o11,o12,o13,o14,o15,o16,o17,o18⟩,i2,i3,i4,i5,i6,i7,i8,i9,i10,i11⟩:=I
  exact⟨⟨o1,o2,o3,o4,o5,o6,o7,o8,fun z=>(Bool.false_ne_true z).elim,Around.frames_deeper e0.frames,o11,o12,o13,o14,o15,o16,o17,o18⟩,i2,i3,i4,i5,i6,i7,i8,i9,i10,i11⟩
theorem fnH_of {k:Nat}{f:Addr}{name qual:Str}{params:Arguments}{body:List Stmt}{scope:Scope}{dV kV doc pm cdv ct oc:Value}{an od:Option Addr}{osl:Array (Option Value)}{N ps:List Str}{sp:List V→Hp→VK→Prop}
    (lk:K.lookup f=some ⟨oc,od,.func (PySem.W.fnOf name qual params body scope dV kV doc pm an cdv ct),osl⟩) (hcd:PySem.W.codeIn K cdv qual=true) (S:FnScope N ps scope) (len:∀vs H Q,sp vs H Q→vs.length=ps.length)
    (hbody:∀(A:Around) (outer:List Env) (s:Shared) (H:Hp) (vs:List V) (Q:VK),RoomH k (A.deeper (envOfC qual scope s.heap.objs.size f cdv))→sp vs H Q →
      ∃t,PSs (cxH P w K mg base N qual scope f cdv A outer s H) body t∧t { nx:=fun _ H'=>Q .non H',rt:=Q } (start N vs) H):FnH P w K mg base (k+1) f (PySem.W.fnOf name qual params body scope dV kV doc pm an cdv ct) ps sp:=by
  refine⟨len,fun A outer s H args us vs Q hr e0 hb r hsp=>?_⟩
  have KX:K.In s.heap:=e0.mod.kin.keeps fun b o e=>(e0.bs b o e).1
  have lim:s.heap.NoLimit:=e0.mod.nolimit.keeps fun b o e=>(e0.bs b o e).1
  have hkind:∀y∈ps.zip us,scope.names.lookup y.1=some .local∨(scope.names.lookup y.1=some .cell∧((cellsFrom (s.heap.objs.size+1) scope.names []).lookup y.1).isSome=true):=fun⟨n,v⟩ hy=>by
    rcases S.par n (List.of_mem_zip hy).1 with q | q
    · exact .inl q
    · exact .inr ⟨q,PySem.W.cellsFrom_some _ _ _ (.inl q)⟩
  refine codeAny_call_function (by have:=hr.dp;omega) (KX _ _ lk) rfl S.co S.gen rfl (PySem.W.codeRec_of KX hcd) (hb _ _ _ _ ?_)
  refine wpAny_newFunctionEnv_cells S.kind hkind fun env he s1 x=>?_
  subst he
  refine⟨lim.keeps x.toInCall.keep,codeAny_func ?_⟩
  obtain⟨t,ht,hq⟩:=hbody A outer s H vs Q ⟨by have:=hr.dp;show A.depth+1+3*k+5<_;omega,by have:=hr.un;show A.units+3+16*k+200<_;omega⟩ hsp
  have I:=inv_startH (qual:=qual) (f:=f) (cd:=cdv) S e0 (len _ _ _ hsp) r x
  refine wpAny_mono (ht [] s1 (start N vs) H _ I hq) (fun fl s' hs=>?_) fun e s' hs=>hs.elim
  have fin:∀{σ':St}{H':Hp}{v:V}{u:Value},Inv (cxH P w K mg base N qual scope f cdv A outer s H) [] σ' H' s'→RelV v u→Q v H'→CE outer P w H s Q u s' :=
    fun {σ' H' v u} J rv q=>⟨v,H',J.os,J.bare,J.base,J.hok,rv,q⟩
  cases fl with
  | ret u=>obtain⟨v,σ',H',J,rv,q⟩:=hs;exact fin J rv q
  | next=>obtain⟨σ',H',J,q⟩:=hs;exact fin (v:=V.non) (u:=Value.none) J rfl q
  | brk=>obtain⟨_,_,_,q⟩:=hs;exact False.elim q
  | cont=>obtain⟨_,_,_,q⟩:=hs;exact False.elim q
theorem Fun.okH {x qual:Str}{st:Stmt}{f:Addr}{fd:FuncData}{N ps:List Str}{k:Nat}{sp:List V→Hp→VK→Prop} (F:Fun K x qual st f fd) (S:FnScope N ps (defScope st)) (len:∀vs H Q,sp vs H Q→vs.length=ps.length)
    (hbody:∀(cdv:Value) (A:Around) (outer:List Env) (s:Shared) (H:Hp) (vs:List V) (Q:VK),RoomH k (A.deeper (envOfC qual (defScope st) s.heap.objs.size f cdv))→sp vs H Q →
      ∃t,PSs (cxH P w K mg base N qual (defScope st) f cdv A outer s H) (defBody st) t∧t { nx:=fun _ H'=>Q .non H',rt:=Q } (start N vs) H):FnH P w K mg base (k+1) f fd ps sp:=by
  obtain⟨oc,od,kV,doc,pm,an,cdv,ct,osl,rfl,lk,hcd⟩:=F.ex
  exact fnH_of lk hcd S len fun A outer s H vs Q hr hsp=>hbody cdv A outer s H vs Q hr hsp
end
theorem upd_id {H:Hp}{a:Addr}{o:HO} (h:H a=some o):upd H a o=H:=by
  funext b
  unfold upd
  split
  · rename_i q;rw[q,h]
  · rfl
theorem upd_comm2 {H:Hp}{a b:Addr}{o u:HO} (h:a≠b):upd (upd H a o) b u=upd (upd H b u) a o:=by
  funext c
  unfold upd
  by_cases h1:c=a
  · rw[if_pos h1,if_neg (fun z=>h (h1.symm.trans z)),if_pos h1]
  · rw[if_neg h1,if_neg h1]
abbrev exOb (C t:Addr) (dd:Option Addr):Obj:={ cls:=.ref C,dict:=dd,data:=.fields #[.ref t,.none,.none,.none,.bool false,.none] }
def exN (e C:Addr):HO:=.ext fun h=>∃t,h.get? e=some (exOb C t none)
def exD (e C d:Addr):HO:=.ext fun h=>∃t,h.get? e=some (exOb C t (some d))
structure ExcI (K:PySem.W.Frag) (C Sh f:Addr):Prop where
  ob:∃nm qn ns bs hd sn sub ab col dd k0 k1 k2 k3 k5,K.lookup C=some (excClassObj nm qn C ns bs (.ref Sh::bmV) hd sn sub ab col dd k0 k1 k2 k3 k5 "ValueError.__new__")
  sh:PySem.W.excIn K Sh bmV "ValueError.__new__"=true
  it:PySem.W.findIn K (.ref C) "__init__"=some (some (.ref f))
  fn:PySem.W.typeIn K (.ref f)=some (.type "function")
  kp:PySem.W.keepIn K (.ref C)=true
  sa:PySem.W.findIn K (.ref C) "__setattr__"=some (some (.builtin "object.__setattr__"))
  hd:PySem.W.hasDictIn K C=true
theorem ExcI.tail {K:PySem.W.Frag}{C Sh f:Addr}{h:Heap} (c:ExcI K C Sh f) (X:K.In h):OwnTail h bmV (.ref Sh::bmV):=by
  obtain⟨bm,N,nm,q,bs,hdct,sn,sub,ab,col,dd,k0,k1,k2,k3,k5,mN,hC,hN,hi,_⟩:=exc_obj X c.sh
  exact .own hC hN hi .base
theorem ExcI.at {K:PySem.W.Frag}{C Sh f:Addr}{h:Heap} (c:ExcI K C Sh f) (X:K.In h):∃nm qn ns bs hd sn sub ab col dd k0 k1 k2 k3 k5,h.get? C=some (excClassObj nm qn C ns bs (.ref Sh::bmV) hd sn sub ab col dd k0 k1 k2 k3 k5 "ValueError.__new__"):=by
  obtain⟨nm,qn,ns,bs,hd,sn,sub,ab,col,dd,k0,k1,k2,k3,k5,e⟩:=c.ob
  exact⟨nm,qn,ns,bs,hd,sn,sub,ab,col,dd,k0,k1,k2,k3,k5,X _ _ e⟩
structure CInit (K:PySem.W.Frag) (Sh:Addr):Prop where
  ga:PySem.W.specialIn K (.ref Sh) "__getattribute__"=some (some (.builtin "type.__getattribute__"))
  rd:PySem.W.readsIn K Sh (.type "type")=true
  at_:PySem.W.findCls K (.ref Sh) (.type "type") "__init__"=some (.val (.builtin "ValueError.__init__"))
def tExInit (K:PySem.W.Frag) (t:TA):TE:=fun σ H Q=>t σ H fun vs H1=>∃e C Sh f r,vs = .ref e::r∧r.length≤sizeLine∧ExcI K C Sh f∧H1 e=some (exN e C)∧Q .non H1
section
variable {X:Cx}{pins:List (Addr×Obj)}{σ:St}{H:Hp}{s:Shared}
theorem exN_ok {P:Program}{w:World}{h:Heap}{e C t:Addr} (he:h.get? e=some (exOb C t none)):ObjOk P w H h e (exN e C) :=
  ⟨⟨t,he⟩,⟨_,he⟩,fun h1 h2 ⟨t',z⟩ k=>⟨t',k _ z⟩⟩
theorem exD_ok {P:Program}{w:World}{h:Heap}{e C t d:Addr} (he:h.get? e=some (exOb C t (some d))):ObjOk P w H h e (exD e C d) :=
  ⟨⟨t,he⟩,⟨_,he⟩,fun h1 h2 ⟨t',z⟩ k=>⟨t',k _ z⟩⟩
theorem pe_exInit {x:Str}{p pos apos:Pos}{e:Expr}{es:List Expr}{t:TA}{C0:Addr}{pl:Sem Bool} (hg:Gl X x) (hm:X.mg x=some (.ref C0)) (M:CInit X.K C0) (ha:PA X (e::es) t) (hdb:(x == ("__debug__":Str))=false:=by decide)
    (hst:starEach (e::es) X.env=(false,eval e X.env)::starEach es X.env:=by rfl) (hpl:(backTo pos (starEach es X.env)).any (·.1)=false:=by rfl)
    (ht:eval (.Call (.Attribute (.Name x p) "__init__" apos) (e::es) [] pos) X.env=(do
      let ov ← eval (.Name x p) X.env
      standAt apos.atName
      let (f,first) ← holding [ov] (getMethod ov "__init__" pl)
      callWith pos f first (backTo pos (starEach (e::es) X.env)) (backToKw pos (keywordEach [] X.env))):=by rfl) :
    PE X (.Call (.Attribute (.Name x p) "__init__" apos) (e::es) [] pos) (tExInit X.K t):=by
  intro pins s σ H Q I h
  refine PySem.W.methodCall_KW (pl:=pl) (thn (pe_glob (v:=.ref C0) hg hm rfl hdb pins s σ H (fun v H'=>v = .ref C0∧H'=H) I ⟨rfl,rfl⟩) fun u s1 ⟨x,H1,I1,rx,ex,eH⟩=>?_) ht
  subst ex eH
  obtain rfl:u=Value.ref C0:=rx
  refine PySem.W.method_cls I1.kIn M.ga (PySem.W.cls_value I1.kIn M.rd M.at_ rfl ?_)
  refine PyProof.Rows.callWith_builtin1 (thn (ha pos pins _ σ _ _ (I1.tok _) h) fun us s2 ⟨vs,H2,I2,r,a,C,Sh,f,r0,ev,hz,c,hH,q2⟩=>?_) hst hpl
  subst ev
  obtain⟨u0,ur,rfl,ru,rr⟩:∃u0 ur,us=u0::ur∧RelV (.ref a) u0∧Vals r0 ur:=by
    cases r with
    | cons a b=>exact⟨_,_,rfl,a,b⟩
  obtain rfl:u0=Value.ref a:=ru
  obtain⟨t0,he⟩:=(show ∃t,s2.heap.get? a=some (exOb C t none) from(I2.hok a _ hH).1)
  have FB:=PySem.F.excBase_ValueError
  obtain⟨nm,qn,ns,bs,hd,sn,sub,ab,col,dd,k0,k1,k2,k3,k5,hC⟩:=c.at I2.kIn
  have T:=c.tail I2.kIn
  have hz':ur.length≤sizeLine:=by rw[← rr.length];exact hz
  obtain⟨hh,g,d,tk,os⟩:=s2
  refine wpAny_call (codeAny_call_builtin FB.init.plain FB.initEntry (wpAny_check_init_subT FB T hC he rfl ?_))
  wp_walk
  refine⟨.non,H2,?_,rfl,q2⟩
  have hp:=Heap.get?_push_of_some (h:=hh) { cls:=.type "tuple",data:=.seq ur.toArray } he
  have hs:=Heap.get?_update_self (Obj.mapFields fun x=>x.setIfInBounds 0 (Value.ref hh.objs.size)) hp rfl
  have W:=I2.write (x:=a) (e:=a) (o:=exN a C) (t':=tk) (h':=(hh.push { cls:=.type "tuple",data:=.seq ur.toArray }).update a (Obj.mapFields fun x=>x.setIfInBounds 0 (Value.ref hh.objs.size)))
    (by rw[hH];exact True.intro) (.inl rfl) (fun b u hb q=>(Heap.get?_update_other _ _ (Ne.symm hb)).trans (Heap.get?_push_of_some _ q)) ⟨_,hs⟩ (exN_ok (t:=hh.objs.size) hs)
  rw[upd_id hH] at W
  exact W
theorem osa_exc {prog:Program}{w:World}{A:Around}{K:PySem.W.Frag}{s:Shared}{x C Sh f:Addr}{ox:Obj}{od:Option Obj}{name:Str}{tk:Tok}{v:Value}{R:Result→Shared→Prop} (X:K.In s.heap) (I:PySem.W.InstAt s.heap x ox C od) (c:ExcI K C Sh f) (ht:PySem.W.findIn K (.ref C) name=some none)
    (h:wpAny (model prog w) A.in1 (Builtin.ObjectAttr.storeInOwnDict (.ref x) (.ref C) (.str name tk) name v false)
      (fun fin s'=>match fin with | .done f=>R (.ok f) s' | .again c'=>c'.quiet=true∧codeAny (model prog w) A c' R s') (fun e s'=>R (.error e) s') s) :
    codeAny (model prog w) A (.call (.builtin "object.__setattr__") ⟨[.ref x,.str name tk,v],[]⟩) R s:=by
  have SF:=PySem.F.store_object
  obtain⟨nm,qn,ns,bs,hd,sn,sub,ab,col,dd,k0,k1,k2,k3,k5,hC⟩:=c.at X
  have hm:PySem.W.Looks (model prog w) s.heap (mroOf (.ref C)) (.ref C :: .ref Sh::bmV):=fun A' Q' E' s' k q=>by
    refine wpAny_mroOf_exc (h:=s'.heap) (g:=s'.gens) (d:=s'.drawn) (t:=s'.toks) (os:=s'.os) (k _ _ hC) q
  have sub:PySem.W.Looks (model prog w) s.heap (isInstance (.ref x) (.type "object")) true:=I.type.andThen fun A' Q' E' s' k q=>by
    refine wpAny_isSubtype_exc (h:=s'.heap) (g:=s'.gens) (d:=s'.drawn) (t:=s'.toks) (os:=s'.os) (k _ _ hC) ?_
    exact q
  refine codeAny_call_builtin SF.slot.plain SF.entry (@PySem.W.check_slot (model prog w) _ _ s "object.__setattr__" "object" "__setattr__" (.ref x) [.str name tk,v] [] _ SF.kind SF.split sub (SF.args (.ref x) (.str name tk) v) ?_)
  rw[PySem.W.osa_eq,refuse_eq]
  refine wpAny_bind (wpAny_bind (I.type.here (wpAny_bind (hm.here ?_))))
  rw[refuseLoop_ref,refuseLoop_ref,PySem.F.store_ValueError.passes]
  refine wpAny_pure (wpAny_bind (I.type.here (wpAny_bind ((PySem.W.looks_findIn X ht).here (wpAny_bind (wpAny_pure ?_))))))
  exact h
theorem exset_ok {A:Around}{E:Value→Shared→Prop}{e C Sh f:Addr}{name:Str}{y:V}{u:Value}{Q:Unit→Shared→Prop} (I:Inv X pins σ H s) (hH:H e=some (exN e C)) (c:ExcI X.K C Sh f) (ht:PySem.W.findIn X.K (.ref C) name=some none) (ry:RelV y u)
    (h:∀d s',H d=none→d≠e→Inv X pins σ (upd (upd H d (.xd [(name,y)])) e (exD e C d)) s'→Q () s'):wpAny (model X.prog X.w) A (setAttr (.ref e) name u) Q E s:=by
  obtain⟨t0,he⟩:=(show ∃t,s.heap.get? e=some (exOb C t none) from(I.hok e _ hH).1)
  refine PySem.W.set_plain I.kIn (x:=e) (C:=C) (ox:=exOb C t0 none) (od:=none) ⟨he,rfl,rfl,True.intro⟩ c.sa ?_
  refine osa_exc (s:={ s with toks:=s.toks+1 }) I.kIn (ox:=exOb C t0 none) (od:=none) ⟨he,rfl,rfl,True.intro⟩ c ht ?_
  obtain⟨cd,hc,hd'⟩:=PySem.W.any_some c.hd
  refine wpAny_bind (wpAny_pure (wpAny_bind (wpAny_bind (wpAny_loadPart he (wpAny_bind (PySem.W.Looks.here (s:={ s with toks:=s.toks+1 }) (PySem.W.looks_clsIn I.kIn hc) ?_))))))
  rw[hd']
  have hp:=Heap.get?_push_of_some (h:=s.heap) { cls:=.type "dict",data:=.dict #[] } he
  have ne:e≠s.heap.objs.size:=Nat.ne_of_lt (Heap.lt_size he)
  show wpAny _ _ (PySem.alloc { cls:=.type "dict",data:=.dict #[] } >>= fun d=>PySem.update e (fun o=>{ cls:=o.cls,dict:=some d,data:=o.data,slots:=o.slots }) >>= fun _=>dictMade (.ref C) e d) _ _ _
  refine wpAny_bind (wpAny_alloc' (wpAny_bind (wpAny_update' hp (wpAny_pure ?_))))
  generalize hg:((s.heap.push { cls:=.type "dict",data:=.dict #[] }).update e fun o=>{ cls:=o.cls,dict:=some s.heap.objs.size,data:=o.data,slots:=o.slots })=h1
  have d1:h1.get? s.heap.objs.size=some { cls:=.type "dict",data:=.dict #[] }:=by rw[← hg];exact(Heap.get?_update_other _ _ ne).trans (Heap.get?_push_size _ rfl)
  have e1:h1.get? e=some (exOb C t0 (some s.heap.objs.size)):=by rw[← hg];exact Heap.get?_update_self _ hp rfl
  have k1:∀b o,b≠e→s.heap.get? b=some o→h1.get? b=some o:=fun b o hb q=>by rw[← hg];exact(Heap.get?_update_other _ _ (Ne.symm hb)).trans (Heap.get?_push_of_some _ q)
  have n1:h1.Ns s.heap.objs.size (fun _=>none):=⟨_,#[],_,d1,rfl,fun e he=>absurd he (by simp),fun _=>rfl⟩
  show wpAny _ _ (Builtin.ObjectAttr.storeInDict s.heap.objs.size (.str name _) name u) _ _ _
  unfold Builtin.ObjectAttr.storeInDict Builtin.ObjectAttr.newKeyGuard
  refine wpAny_bind (wpAny_pure (wpAny_bind (wpAny_nsSet1 (Heap.Ns1.of_empty n1) fun h2 hn' hs=>?_)))
  obtain⟨oD,esD,epD,hoD,hdD,hcD⟩:=hn'.count (PySem.Within.cons name u PySem.Within.nil)
  refine wpAny_bind (wpAny_lookBehind hoD (by rw[hdD];exact pastItsLine_dict (Nat.le_trans hcD (by rw[List.length_cons,List.length_nil,sizeLine_eq];omega))) ?_)
  refine wpAny_pure (h s.heap.objs.size _ I.fresh ne.symm ?_)
  have e2:h2.get? e=some (exOb C t0 (some s.heap.objs.size)):=(hs.2 e ne).trans e1
  have W:=I.write (x:=e) (e:=e) (o:=exD e C s.heap.objs.size) (t':=s.toks+1+1) (h':=h2) (by rw[hH];exact True.intro) (.inl rfl) (fun b o hb q=>(hs.2 b (Nat.ne_of_lt (Heap.lt_size q))).trans (k1 b o hb q)) ⟨_,e2⟩ (exD_ok e2)
  rw[upd_comm2 ne.symm]
  refine W.track (e:=s.heap.objs.size) (by rw[upd_ne ne.symm];exact I.fresh) (Heap.get?_none_of_le I.sz) (Nat.ne_of_gt I.lt) (fun x c q z=>?_) (fun p hp z=>?_) (I.nofs (Nat.le_refl _)) ⟨_,hn',fun g=>?_⟩
  · obtain⟨v,o,ho,_⟩:=I.cell x c q
    exact absurd (Heap.lt_size ho) (by rw[z];exact Nat.lt_irrefl _)
  · exact absurd (Heap.lt_size (I.pin p hp).1) (by rw[z];exact Nat.lt_irrefl _)
  · show RelO (List.lookup g [(name,y)]) (if g=name then some u else none)
    by_cases q:g=name
    · subst q
      simp only[List.lookup,beq_self_eq_true,if_true]
      exact ry
    · have hb:(g == name)=false:=beq_eq_false_iff_ne.mpr q
      simp only[List.lookup,hb,if_neg q]
      exact True.intro
end
end L2
set_option Elab.async false
set_option linter.all false
set_option maxRecDepth 100000
namespace L2
open PySem PySem.Spec PyProof.Rows
section
variable {X:Cx}{pins:List (Addr×Obj)}{σ:St}{H:Hp}{s:Shared}{k:Nat}{C Sh f:Addr}{fd:FuncData}{ps:List Str}{sp:List V→Hp→VK→Prop}
theorem RoomH.make {k:Nat}{A:Around} (r:RoomH (k+1) A) (C:Addr) (us:List Value) (kw:List (Str×Value)):RoomH k (A.under (.builtin "type.__call__" ⟨.ref C::us,kw⟩)) :=
  ⟨by have:=r.dp;rw[make_depth];omega,by have:=r.un;rw[make_units];omega⟩
theorem run_makeE {Q:VK}{us:List Value}{vs:List V} (c:ExcI X.K C Sh f) (F:FnH X.prog X.w X.K X.mg X.base k f fd ps sp) (hr:RoomH (k+1) X.A) (hb:Binds X.K fd ps []) (I:Inv X pins σ H s) (r:Vals vs us) (hz:vs.length≤sizeLine)
    (h:∀e,H e=none→X.s₀.heap.get? e=none→sp (.ref e::vs) (upd H e (exN e C)) fun v H2=>v = .non∧Q (.ref e) H2):wpAny (model X.prog X.w) X.A (call (.ref C) us) (EP X pins σ Q) X.xe s:=by
  have hrest:us.length≤sizeLine:=by rw[← r.length];exact hz
  obtain⟨nm,qn,ns,bs,hd,sn,sub,ab,col,dd,k0,k1,k2,k3,k5,hC⟩:=c.at I.kIn
  have T:=c.tail I.kIn
  have hK:=I.kIn
  have FB:=PySem.F.excBase_ValueError
  have f1:=tc_lookup
  have f2:=tc_bind (.ref C)
  have hT:s.TypeIs (.ref C) "type":=⟨_,hC,rfl⟩
  have J:Inv X pins σ (upd H (s.heap.objs.size+1) (exN (s.heap.objs.size+1) C)) { s with heap:=(s.heap.push { cls:=.type "tuple",data:=.seq us.toArray }).push (exOb C s.heap.objs.size none) } :=
    I.laid (a:=s.heap.objs.size+1) (t':=s.toks) (fun b u q=>Heap.get?_push_of_some _ (Heap.get?_push_of_some _ q)) (Nat.le_succ _) (exN_ok (t:=s.heap.objs.size) (Heap.get?_push_at (by rw[Heap.size_push]) rfl))
  have hq:=h (s.heap.objs.size+1) (I.hok.fresh (Nat.le_succ _)) (Heap.get?_none_of_le (Nat.le_succ_of_le I.sz))
  have r2:Vals (V.ref (s.heap.objs.size+1)::vs) (Value.ref (s.heap.objs.size+1)::us):=.cons rfl r
  have hl:(Value.ref (s.heap.objs.size+1)::us).length=ps.length:=by
    have e:=r2.length
    rw[F.len _ _ _ hq] at e
    exact e.symm
  have hb2:=hb { s with heap:=(s.heap.push { cls:=.type "tuple",data:=.seq us.toArray }).push (exOb C s.heap.objs.size none) } (Value.ref (s.heap.objs.size+1)::us) J.kIn (by rw[List.append_nil];exact hl)
  rw[List.append_nil] at hb2
  have R:=F.run (X.A.under (.builtin "type.__call__" ⟨.ref C::us,[]⟩)) X.stack _ _ ⟨Value.ref (s.heap.objs.size+1)::us,[]⟩ (Value.ref (s.heap.objs.size+1)::us) _ _ (hr.make C us []) (J.env0.make C us []) hb2 r2 hq
  have Lk:=PySem.W.looks_findIn (M:=model X.prog X.w) J.kIn c.it
  have Lb:=PySem.W.bind_fn (M:=model X.prog X.w) J.kIn (.ref (s.heap.objs.size+1)) c.fn
  have fin:∀{u:Value}{s':Shared},CE X.stack X.prog X.w (upd H (s.heap.objs.size+1) (exN (s.heap.objs.size+1) C)) { s with heap:=(s.heap.push { cls:=.type "tuple",data:=.seq us.toArray }).push (exOb C s.heap.objs.size none) } (fun v H2=>v = .non∧Q (.ref (s.heap.objs.size+1)) H2) u s'→u = .none∧EP X pins σ Q (.ref (s.heap.objs.size+1)) s':=fun {u s'} z=>by
    obtain⟨v,H',I3,rv,ev,q3⟩:=J.after z
    subst ev
    exact⟨rv,.ref (s.heap.objs.size+1),H',I3,rfl,q3⟩
  clear h hq hb hb2 r2
  obtain⟨hh,g,d,t,os⟩:=s
  refine wpAny_call (codeAny_of_tree ?_)
  show wpAny _ _ (callAny (.ref C) _) _ _ _
  repeat (any_goals (first | assumption | with_reducible refine wpAny_loadPart_at hC ?_ | wp_step))
  refine⟨rfl,?_⟩
  refine codeAny_call_builtin_at (Code.quiet_builtin _ (by decide +kernel)) entry_typeCall (wpAny_check_type_call_sub hC ?_)
  repeat (first | with_reducible refine wpAny_loadPart_at hC ?_ | with_reducible refine wpAny_madeBy_exc hC ?_ | wp_step)
  refine codeAny_call_builtin_code (Code.quiet_builtin _ FB.quiet) (wpAny_check_new_subT FB T hC ?_)
  refine codeAny_exc_new_subT FB T hC ?_ hrest
  show wpAny _ _ _ _ _ _
  have hC₁:=Heap.get?_push_of_some (exOb C hh.objs.size none) (Heap.get?_push_of_some { cls:=.type "tuple",data:=.seq us.toArray } hC)
  have hget:((hh.push { cls:=.type "tuple",data:=.seq us.toArray }).push (exOb C hh.objs.size none)).get? (hh.objs.size+1)=some (exOb C hh.objs.size none):=Heap.get?_push_at (by rw[Heap.size_push]) rfl
  have hcC:(Value.ref C :: .ref Sh::bmV).contains (.ref C)=true:=by simp
  unfold isInstance
  repeat (first | with_reducible refine wpAny_loadPart_at hget ?_ | (with_reducible refine wpAny_isSubtype_exc hC₁ ?_;rw[hcC]) | wp_step)
  show wpAny _ _ (isSubtype (.ref C) (.ref C)) _ _ _
  refine wpAny_isSubtype_exc hC₁ ?_
  rw[hcC]
  show wpAny _ _ (holding [Value.ref (hh.objs.size+1)] (callSpecial? (Value.ref (hh.objs.size+1)) (Str.ofString "__init__") us []) >>= _) _ _ _
  refine wpAny_bind (wpAny_holding (PySem.W.special_fn (C:=C) (x:=hh.objs.size+1) (ox:=exOb C hh.objs.size none) (od:=none) (s:=⟨(hh.push { cls:=.type "tuple",data:=.seq us.toArray }).push (exOb C hh.objs.size none),g,d,t,os⟩) J.kIn ⟨hget,rfl,rfl,True.intro⟩ c.it c.fn (wpAny_call (codeAny_mono R fun r s' z=>?_))))
  cases r with
  | error ev=>exact False.elim z
  | ok fl =>
    cases fl with
    | ret u =>
      obtain⟨rfl,ep⟩:=fin z
      exact wpAny_pure ep
    | next=>exact False.elim z
    | brk=>exact False.elim z
    | cont=>exact False.elim z
def tMakeE (C:Addr) (sp:List V→Hp→VK→Prop) (h0:Heap) (t:TA):TE:=fun σ H Q=>t σ H fun vs H1=>vs.length≤sizeLine∧∀e,H1 e=none→h0.get? e=none→sp (.ref e::vs) (upd H1 e (exN e C)) fun v H2=>v = .non∧Q (.ref e) H2
theorem pe_makeE {x:Str}{p pos:Pos}{e:Expr}{es:List Expr}{t:TA} (c:ExcI X.K C Sh f) (F:FnH X.prog X.w X.K X.mg X.base k f fd ps sp) (hr:RoomH (k+1) X.A) (hb:Binds X.K fd ps []) (hg:Gl X x) (hm:X.mg x=some (.ref C))
    (ha:PA X (e::es) t) (hdb:(x == ("__debug__":Str))=false:=by decide) (he:starEach (e::es) X.env=(false,eval e X.env)::starEach es X.env:=by rfl) (hpl:(backTo pos (starEach es X.env)).any (·.1)=false:=by rfl) :
    PE X (.Call (.Name x p) (e::es) [] pos) (tMakeE C sp X.s₀.heap t):=by
  intro pins s σ H Q I h
  refine wpAny_Call_Name_kw (ld_glob I hg hm ?_ hdb)
  refine PySem.W.callWith_K (h₀:=X.base) I.ok.mod.kin c.kp (thn (ha pos pins s σ H _ I h) fun us s1 ⟨vs,H1,I1,r,z,q⟩=>⟨I1.kIn,?_⟩) he hpl
  exact run_makeE c F hr hb I1 r z q
end
end L2
set_option Elab.async false
set_option linter.all false
set_option maxRecDepth 100000
namespace L2
open PySem PySem.Spec PyProof.Rows
theorem entry_unchain:entryFor table "proto.unchain"=some Builtin.«proto.unchain»:=entryFor_of_tree (by kernel_rfl)
abbrev exOf (C t d e0:Addr):Obj:={ cls:=.ref C,dict:=some d,data:=.fields #[.ref t,.none,.ref e0,.none,.bool true,.none] }
section
variable {prog:Program}{w:World}{A:Around}{E:Value→Shared→Prop}{s:Shared}{env:Env}{K:PySem.W.Frag}{C Sh f e0:Addr}
theorem raise_none {x:Sem Value}{Q:Flow→Shared→Prop}{pos:Pos} (hh:A.handled=some (.ref e0)) (c:ExcI K C Sh f)
    (h:wpAny (model prog w) A x (fun v s₁=>∃e t d,v = .ref e∧K.In s₁.heap∧s₁.heap.get? e=some (exOb C t (some d))∧e≠e0∧CN s₁.heap e0 ∧
      ∀h',h'.get? e=some (exOf C t d e0)→(∀b,b≠e→h'.get? b=s₁.heap.get? b)→E (.ref e) { s₁ with heap:=h' }) E s) :
    wpAny (model prog w) A (raiseStmt env (some x) (some (do let v ← (pure Value.none:Sem Value);standAt pos;pure v))) Q E s:=by
  have hcB:(Value.ref C :: .ref Sh::bmV).contains (.type "BaseException")=true:=by simp
  unfold raiseStmt
  refine wpAny_bind (wpAny_mono h (fun v s₁ h₁=>?_) fun _ _ x=>x)
  obtain⟨e,t,d,rfl,X,he,ne,cn,hE⟩:=h₁
  obtain⟨nm,qn,ns,bs,hd,sn,sub,ab,col,dd,k0,k1,k2,k3,k5,hC⟩:=c.at X
  obtain⟨hp,g,dr,tk,os⟩:=s₁
  repeat (first | with_reducible refine wpAny_loadPart_at he ?_ | with_reducible refine wpAny_loadPart_at hC ?_ | (with_reducible refine wpAny_isSubtype_exc hC ?_;rw[hcB]) | wp_step)
  generalize hg:((hp.update e (Obj.mapFields fun x=>x.setIfInBounds 3 Value.none)).update e (Obj.mapFields fun x=>x.setIfInBounds 4 (Value.bool true)))=h1
  have eC:C≠e:=fun z=>by
    rw[z] at hC
    have:=(show hp.get? e=some _ from he).symm.trans hC
    cases this
  have o1:∀b,b≠e→h1.get? b=hp.get? b:=fun b hb=>by rw[← hg,Heap.get?_update_other _ _ (Ne.symm hb),Heap.get?_update_other _ _ (Ne.symm hb)]
  have e1:h1.get? e=some { cls:=.ref C,dict:=some d,data:=.fields #[.ref t,.none,.none,.none,.bool true,.none] }:=by
    rw[← hg]
    exact Heap.get?_update_self _ (Heap.get?_update_self _ he rfl) rfl
  clear hg
  refine wpAny_loadPart ((o1 C eC).trans hC) (wpAny_pure ?_)
  refine wpAny_pure ?_
  unfold setFlight
  refine wpAny_bind (wpAny_bind (wpAny_field e1 rfl rfl (wpAny_pure ?_)))
  obtain⟨oe,ho,hx⟩:=cn
  have o0:h1.get? e0=some oe:=(o1 e0 ne.symm).trans ho
  obtain⟨vs,hv,h2⟩:∃vs,oe.data = .fields vs∧vs[2]?=some Value.none:=by
    unfold ctxO at hx
    split at hx
    · rename_i vs hv
      exact⟨vs,hv,hx⟩
    · cases hx
  have nb:((Value.ref e0 != Value.ref e)=true):=by
    simp only[bne_iff_ne,ne_eq,Value.ref.injEq]
    exact fun z=>ne z.symm
  unfold raiseNew
  refine wpAny_bind (wpAny_handled ?_)
  rw[hh]
  dsimp only
  rw[if_pos nb]
  refine wpAny_bind (wpAny_holding (wpAny_runValue (codeAny_builtin entry_unchain ?_)))
  unfold Builtin.«proto.unchain»
  refine wpAny_bind (wpAny_field o0 hv h2 ?_)
  rw[if_pos (by rfl)]
  refine wpAny_pure ?_
  have e2:=Heap.get?_update_self (Obj.mapFields fun x=>x.setIfInBounds 2 (Value.ref e0)) e1 rfl
  refine wpAny_bind (wpAny_setField (x:=.ref e0) e1 rfl (by simp) (wpAny_throw (hE _ e2 fun b hb=>?_)))
  exact(Heap.get?_update_other _ _ (Ne.symm hb)).trans (o1 b hb)
end
def DictIs (h:Heap) (e d:Addr):Prop:=∃oe,h.get? e=some oe∧oe.dict=some d
theorem DictIs.dk {h h':Heap}{e d:Addr} (x:DictIs h e d) (k:DK h h'):DictIs h' e d:=by
  obtain⟨oe,he,hc⟩:=x
  obtain⟨o',h1,h2,_⟩:=k e oe he
  exact⟨o',h1,h2.trans hc⟩
def CX2 (P:Program) (w:World):CXT:=fun outer H s E ev s'=>∃(e C d:Addr) (H':Hp),ev = .ref e∧Fly P w outer H s e C H' s'∧DictIs s'.heap e d∧E (.ref C) (some d) H'
section
variable {X:Cx}{pins:List (Addr×Obj)}{σ:St}{H:Hp}{s:Shared}{e C t d e0:Addr}{Q:Unit→Shared→Prop}{E:Value→Shared→Prop}{M:Model}
theorem made_leavesD {h':Heap} (O:Own X) (I:Inv X pins σ H s) (hn:H e=none) (h0:X.s₀.heap.get? e=none) (hs:s.heap.get? e=some (exOb C t (some d))) (he:h'.get? e=some (exOf C t d e0)) (ho:∀b,b≠e→h'.get? b=s.heap.get? b)
    (k:∀h'',Fly X.prog X.w X.outer X.H₀ X.s₀ e C H { s with heap:=h'' }→DictIs h'' e d→Q () { s with heap:=h'' }):wpAny M X.A (leaving X.env (.ref e)) Q E { s with heap:=h' }:=by
  have hst:=I.stack
  have hfr:=I.ok.frames
  have nst:e∉frs X.stack:=fun z=>by
    obtain⟨_,o,h1,h2⟩:=I.stack.mem z
    rw[hs] at h1
    cases h1
    exact h2 _ rfl
  have hin:∀env∈X.stack,∀b,env.frame=some b→b∈e::frs X.stack:=fun env he b hb=>List.mem_cons_of_mem _ (List.mem_filterMap.mpr ⟨env,he,hb⟩)
  have get:∀{b:Addr}{o:Obj},s.heap.get? b=some o→b≠e→b∉frs X.stack→(PySem.W.hideAll s.heap (e::frs X.stack)).get? b=some o:=fun q h1 h2=>PySem.W.hideAll_get _ q fun z=>(List.mem_cons.mp z).elim h1 h2
  have ff:=ff_to (PySem.W.funFrames_hide hst hin) fun b hb o q=>⟨o.slots,(ho b fun z=>nst (z▸hb)).trans q⟩
  have hkb:(PySem.W.hideAll s.heap (e::frs X.stack)).StaysIn h':=fun b o q=>by
    have hb:b≠e:=fun z=>by rw[z,PySem.W.hideAll_none _ List.mem_cons_self] at q;cases q
    exact(ho b hb).trans (PySem.W.of_hideAll _ q)
  have hen:(PySem.W.hideAll s.heap (e::frs X.stack)).get? e=none:=PySem.W.hideAll_none _ List.mem_cons_self
  rw[O.st] at hfr
  generalize hB:PySem.W.hideAll s.heap (e::frs X.stack)=B at get ff hkb hen
  rw[O.st] at ff
  refine wpAny_mono ((KD.leaving (.ref e) _).any (wpAny_leaving_firstW (M:=M) (E:=fun _ _=>False) (Q:=fun _ s2=>∃g,s2={ s with heap:=g }∧Heap.LeftW B (X.env::X.outer) e (.ref C) (.ref t) h' g) (s:={ s with heap:=h' }) (a0:=.ref t) hfr ff O.fr he hkb hen rfl rfl rfl fun g hL=>⟨g,rfl,hL⟩)) (fun _ s2 ⟨⟨g,e2,hL⟩,dk⟩=>?_) fun _ _ z=>z.1.elim
  subst e2
  obtain⟨k1,⟨_,_,k2⟩,k3,k4⟩:=hL
  refine k g ⟨I.os,I.bare,⟨_,_,⟨k1,hen,k2,k3⟩,fun a o q=>?_,fun b o q hb=>?_,fun b o q n hb=>?_⟩,fun b o q n hb=>?_,fun b o q n=>I.base.free b o q n (O.nex b),I.base.tups,I.base.frzs,I.base.tbls⟩ (DictIs.dk ⟨_,he,rfl⟩ dk)
  · refine(I.hok a o q).stay (fun b u hb z=>get z (fun hm=>?_) fun hm=>?_) (fun _ z=>z) fun _ _ z=>z
    · rcases hb with rfl | hb
      · rw[hm,hn] at q;cases q
      · rw[hm,hn] at hb;cases hb
    · have hx:=I.stkFree b hm
      rcases hb with rfl | hb
      · rw[hx] at q;cases q
      · rw[hx] at hb;cases hb
  · obtain⟨o',z⟩:=I.base.there b o q (O.nex b)
    exact⟨o',get z (fun y=>by rw[y,h0] at q;cases q) (O.not I q hb)⟩
  · exact get (I.base.keep b o q n hb (O.nex b)) (fun y=>by rw[y,h0] at q;cases q) (O.not I q hb)
  · obtain⟨sl,z⟩:=I.base.slot b o q n hb (O.nex b)
    obtain⟨_,o',ho',hnf⟩:=I.ok.funs.mem hb
    rw[q] at ho'
    cases ho'
    have hbe:b≠e:=fun y=>by rw[y,h0] at q;cases q
    obtain⟨sl',z'⟩:=k4 b _ ((ho b hbe).trans z) hnf
    exact⟨sl',z'⟩
end
structure RaisD (X:Cx) (Ex:Value→Addr→St→Hp→Prop):Prop where
  nw:∀(pins:List (Addr×Obj)) (σ:St) (H:Hp) (s:Shared) (e C t d e0:Addr) (h':Heap),Inv X pins σ H s→H e=none→X.s₀.heap.get? e=none→s.heap.get? e=some (exOb C t (some d))→h'.get? e=some (exOf C t d e0) →
    (∀b,b≠e→h'.get? b=s.heap.get? b)→Ex (.ref C) d σ H→X.xe (.ref e) { s with heap:=h' }
  own:PassesOwn (model X.prog X.w) X.A X.env X.xe
  mrk:∀hd,PassesOwnAt (model X.prog X.w) (X.A.mark hd) X.A X.env X.xe
theorem raisD_def {P:Program}{w:World}{K:PySem.W.Frag}{mg:Str→Option Value}{base:Heap}{N:List Str}{qual:Str}{scope:Scope}{f:Addr}{cd:Value}{A:Around}{outer:List Env}{s:Shared}{H:Hp}{E:XK} :
    RaisD (cxOf (CX2 P w) P w K mg base N qual scope f cd A outer s H E) (fun c d _ H'=>E c (some d) H') where
  nw:=fun pins σ H1 s1 e C t d e0 h' I hn h0 hs he ho q=>made_leavesD ⟨rfl,rfl,rfl⟩ I hn h0 hs he ho fun h'' F dc=>⟨e,C,d,H1,rfl,F,dc,q⟩
  own:=PassesOwn.leaving
  mrk:=fun hd=>PassesOwnAt.leaving
end L2
set_option Elab.async false
set_option linter.all false
set_option maxRecDepth 100000
namespace L2
open PySem PySem.Spec PyProof.Rows
def excC (e:Addr):HO:=.ext fun h=>CN h e
theorem excC_ok {P:Program}{w:World}{H:Hp}{h:Heap}{e:Addr} (cn:CN h e):ObjOk P w H h e (excC e) :=
  ⟨cn,let ⟨o,ho,_⟩:=cn;⟨o,ho⟩,fun h1 h2 ⟨o,z,c⟩ k=>⟨o,k o z,c⟩⟩
def hanE (X:Cx) (e:Addr) (Z:Value→Shared→Prop):Cx:={ hanX X e with xe:=Z }
section
variable {X:Cx}{pins:List (Addr×Obj)}{σ:St}{H:Hp}{s:Shared}{e e0 C d:Addr}{Z:Value→Shared→Prop}
theorem Inv.hanE (I:Inv X pins σ H s) (e:Addr) (Z:Value→Shared→Prop):Inv (L2.hanE X e Z) pins σ H s:=by
  obtain⟨⟨o1,o2,o3,o4,o5,o6,o7,o8,o9,o10,o11,o12,o13,o14,o15,o16,o17,o18⟩,i2,i3,i4,i5,i6,i7,i8,i9,i10,i11⟩:=I
  exact⟨⟨o1,o2,o3,o4,o5,o6,o7,o8,fun z=>(Bool.false_ne_true z).elim,o10,o11,o12,o13,o14,o15,o16,o17,o18⟩,i2,i3,i4,i5,i6,i7,i8,i9,i10,i11⟩
theorem Inv.unhanE (hd:X.calm=true→X.A.handled=none) (I:Inv (L2.hanE X e Z) pins σ H s):Inv X pins σ H s:=by
  obtain⟨⟨o1,o2,o3,o4,o5,o6,o7,o8,o9,o10,o11,o12,o13,o14,o15,o16,o17,o18⟩,i2,i3,i4,i5,i6,i7,i8,i9,i10,i11⟩:=I
  exact⟨⟨o1,o2,o3,o4,o5,o6,o7,o8,hd,o10,o11,o12,o13,o14,o15,o16,o17,o18⟩,i2,i3,i4,i5,i6,i7,i8,i9,i10,i11⟩
theorem Inv.forget {φ:Heap→Prop} (I:Inv X pins σ (upd H e (.ext φ)) s) (hn:H e=none):Inv X pins σ H s:=by
  have up:∀b,b≠e→upd H e (.ext φ) b=H b:=fun b hb=>upd_ne hb
  have no:∀b,upd H e (.ext φ) b=none→H b=none:=fun b q=>by
    by_cases hb:b=e
    · rw[hb];exact hn
    · rw[← up b hb];exact q
  have so:∀b u,upd H e (.ext φ) b=some u→(∀ψ,u≠.ext ψ)→H b=some u:=fun b u q n=>by
    by_cases hb:b=e
    · rw[hb,upd_same] at q
      exact absurd (Option.some.inj q).symm (n φ)
    · rw[← up b hb];exact q
  refine⟨I.ok,I.os,I.bare,⟨I.base.keep,I.base.slot,fun b o q n hx=>no b (I.base.free b o q n hx),I.base.there,fun b xs q=>so b _ (I.base.tups b xs q) (fun ψ z=>by cases z),fun b o u q=>so b _ (I.base.frzs b o u q) (fun ψ z=>by cases z),fun b ps q=>?_⟩,I.loc,I.cell,no _ I.free,fun x c q=>no c (I.freeC x c q),fun p hp=>?_,fun b u q=>?_,I.len⟩
  · obtain⟨m,z⟩:=I.base.tbls b ps q
    exact⟨m,so b _ z fun ψ z=>by cases z⟩
  · obtain⟨z1,z2,z3⟩:=I.pin p hp
    exact⟨z1,no _ z2,z3⟩
  · have hb:b≠e:=fun z=>by rw[z,hn] at q;cases q
    exact(I.hok b u ((up b hb).trans q)).stay (fun c v _ z=>z) (fun c z=>so c _ z fun ψ y=>by cases y) fun c xs z=>so c _ z fun ψ y=>by cases y
end
def tRaiseE (C e0:Addr) (sp:List V→Hp→VK→Prop) (h0:Heap) (t:TA) (Ey:Value→Addr→St→Hp→Prop):TS:=fun _ σ H=>tMakeE C sp h0 t σ H fun x H2=>∃e d H3,x = .ref e∧h0.get? e=none∧H2=upd H3 e (exD e C d)∧H3 e=none∧H3 e0=some (excC e0)∧Ey (.ref C) d σ H3
section
variable {X:Cx}{k:Nat}{C Sh f e0:Addr}{fd:FuncData}{ps:List Str}{sp:List V→Hp→VK→Prop}{Z:Value→Shared→Prop}{Ey:Value→Addr→St→Hp→Prop}
theorem ps_raiseE {x:Str}{p cpos pos:Pos}{e ce:Expr}{es:List Expr}{t:TA} (c:ExcI X.K C Sh f) (F:FnH X.prog X.w X.K X.mg X.base k f fd ps sp) (hr:RoomH (k+1) X.A) (hb:Binds X.K fd ps []) (hg:Gl X x) (hm:X.mg x=some (.ref C))
    (ha:PA (hanE X e0 Z) (e::es) t) (hd:X.calm=true→X.A.handled=none)
    (hZ:∀(pins:List (Addr×Obj)) (σ:St) (H:Hp) (s:Shared) (e t d:Addr) (h':Heap),Inv X pins σ H s→H e=none→X.s₀.heap.get? e=none→s.heap.get? e=some (exOb C t (some d))→h'.get? e=some (exOf C t d e0) →
      (∀b,b≠e→h'.get? b=s.heap.get? b)→Ey (.ref C) d σ H→Z (.ref e) { s with heap:=h' })
    (hce:eval ce X.env=pure Value.none:=by rfl) (hdb:(x == ("__debug__":Str))=false:=by decide) (he:starEach (e::es) X.env=(false,eval e X.env)::starEach es X.env:=by rfl) (hpl:(backTo cpos (starEach es X.env)).any (·.1)=false:=by rfl) :
    PS (hanE X e0 Z) (.Raise (some (.Call (.Name x p) (e::es) [] cpos)) (some ce) pos) (tRaiseE C e0 sp X.s₀.heap t Ey):=by
  intro pins s σ H D I h
  have P:=pe_makeE (X:=hanE X e0 Z) (x:=x) (p:=p) (pos:=cpos) c F (hr.mark _) hb hg hm ha hdb he hpl pins s σ H _ I h
  rw[arm_exec_Raise]
  refine wpAny_bind (wpAny_standAt ?_)
  show wpAny _ _ (raiseStmt _ (some (do let v ← eval (.Call (.Name x p) (e::es) [] cpos) X.env;standAt pos;pure v)) (some (do let v ← eval ce X.env;standAt pos;pure v))) _ _ _
  rw[hce]
  refine raise_none (A:=(hanE X e0 Z).A) (e0:=e0) rfl c (wpAny_bind (thn P fun u s1 ⟨v,H2,I2,ru,a,d,H3,ev,h0,e2,hn,h3,q⟩=>wpAny_bind (wpAny_standAt (wpAny_pure ?_))))
  subst ev e2
  obtain rfl:u=Value.ref a:=ru
  have ne:a≠e0:=fun z=>by rw[z,h3] at hn;cases hn
  obtain⟨t1,h1⟩:=(show ∃t,s1.heap.get? a=some (exOb C t (some d)) from(I2.hok a _ upd_same).1)
  have cn:CN s1.heap e0:=(I2.hok e0 (excC e0) (by rw[upd_ne ne.symm];exact h3)).1
  exact⟨a,t1,d,rfl,I2.kIn,h1,ne,cn,fun h' x1 x2=>hZ pins σ H3 s1 a t1 d h' ((I2.unhanE hd).forget hn) hn h0 h1 x1 x2 q⟩
end
def tTryR (tb:XS→TS) (K:PySem.W.Frag) (S:Addr) (th:Addr→TS):TS:=fun D σ H =>
  tb (fun c σ' H'=>∃C,c = .ref C∧PySem.W.mroIn K C (.ref S)=some true∧∀e0,H' e0=none→th e0 D σ' (upd H' e0 (excC e0))) D σ H
theorem ps_tryR {X:Cx}{body suite:List Stmt}{b₀:Stmt}{x:Str}{S:Addr}{np hpos pos:Pos}{tb:XS→TS}{th:Addr→TS} (O:Own X) (hc:X.calm=true) (hb:∀pins Ex,PSs (tryX X pins Ex) body (tb Ex)) (hg:Gl X x) (hm:X.mg x=some (.ref S)) (cS:ExcCls X.K S)
    (hmk:∀hd,PassesOwnAt (model X.prog X.w) (X.A.mark hd) X.A X.env X.xe)
    (hh:∀e,PSs (hanE X e X.xe) (b₀::suite) (th e)) (hd:(x == ("__debug__":Str))=false:=by decide) :
    PS X (.Try body [.ExceptHandler (some (.Name x np)) none (b₀::suite) hpos] [] [] pos) (tTryR tb X.K S th):=by
  intro pins s σ H D I h
  refine wpAny_Try_except (wpAny_mono (hb pins _ [] s σ H D (I.tryIn _) h) (fun f s1 q=>?_) fun ev s1 q=>?_)
  · cases f with
    | next=>obtain⟨σ1,H1,I1,q1⟩:=q;exact wpAny_execs_nil ⟨σ1,H1,I1.tryOut,q1⟩
    | brk=>obtain⟨σ1,H1,I1,q1⟩:=q;exact⟨σ1,H1,I1.tryOut,q1⟩
    | cont=>obtain⟨σ1,H1,I1,q1⟩:=q;exact⟨σ1,H1,I1.tryOut,q1⟩
    | ret u=>obtain⟨v1,σ1,H1,I1,r1,q1⟩:=q;exact⟨v1,σ1,H1,I1.tryOut,r1,q1⟩
  · obtain⟨e,C,σ1,H1,s2,H2,rfl,I2,F,cn,C',ec,hs,k⟩:=q
    cases ec
    have hfr:=I2.ok.frames
    obtain⟨a0,B,fl,go⟩:=F.more
    have st:=O.st
    rw[st] at hfr
    have fl':Heap.FlyingW B (X.env::X.outer) e (.ref C) a0 s1.heap:=st▸fl
    have G:=fun g=>go g
    rw[st] at G
    refine wpAny_mono ((KD.note (.ref e) _).any (wpAny_looks_onW (M:=model X.prog X.w) (E:=fun _ _=>False) (Q:=fun _ t=>∃g,t={ s1 with heap:=g }∧Heap.HeldW B (X.env::X.outer) e (.ref C) a0 X.env.locals g∧s1.heap.UpToSlots g) hfr O.fr fl' fun g a b=>⟨g,rfl,a,b⟩)) (fun _ t1 ⟨⟨h1,et,held1,up1⟩,dk1⟩=>?_) fun _ _ z=>z.1.elim
    subst et
    refine wpAny_mono ((KD.setFlight (.ref e) none).any (wpAny_landsW (s:={ s1 with heap:=h1 }) (M:=model X.prog X.w) (E:=fun _ _=>False) (Q:=fun _ t=>∃g,t={ s1 with heap:=g }∧Heap.FlyingW B (X.env::X.outer) e (.ref C) a0 g∧h1.UpToSlots g) held1 fun g a b=>⟨g,rfl,a,b⟩)) (fun _ t2 ⟨⟨h2,et,fl2,up2⟩,dk2⟩=>?_) fun _ _ z=>z.1.elim
    subst et
    have F2:Fly X.prog X.w X.stack H1 s2 e C H2 { s1 with heap:=h2 }:=go h2 (st.symm▸fl2) (up1.trans up2)
    have I3:=F2.inv I2
    have I3h:=I3.han e
    obtain⟨oe,vs,he,hec,_⟩:=F2.obj
    refine wpAny_handleBy_cons (codeAny_handlers_test (ld_glob (X:=hanX X e) I3h hg hm ?_ hd)) (by intro q;cases q)
    refine exc_matches (K:=X.K) I3.kIn cS he hec hs ?_
    refine codeAny_handlers_suite ?_
    refine wpAny_mono ((KD.setFlight (.ref e) none).any (lands_againW (s:={ s1 with heap:=h2 }) (M:=model X.prog X.w) (E:=fun _ _=>False) (Q:=fun _ t=>∃g,t={ s1 with heap:=g }∧Heap.FlyingW B (X.env::X.outer) e (.ref C) a0 g∧h2.UpToSlots g) fl2 fun g a b=>⟨g,rfl,a,b⟩)) (fun _ t3 ⟨⟨h3,et,fl3,up3⟩,dk3⟩=>?_) fun _ _ z=>z.1.elim
    subst et
    have F3:Fly X.prog X.w X.stack H1 s2 e C H2 { s1 with heap:=h3 }:=go h3 (st.symm▸fl3) ((up1.trans up2).trans up3)
    have I4:=F3.inv I2
    have nw:=F3.new
    have hn:=F3.untracked
    have cn3:CN h3 e:=((cn.dk dk1).dk dk2).dk dk3
    have I5:Inv X pins σ1 (upd H2 e (excC e)) { s1 with heap:=h3 }:=by
      refine I4.track hn ?_ ?_ (fun y c q z=>?_) (fun p hp z=>?_) (fun z=>?_) (excC_ok cn3)
      · cases q:X.s₀.heap.get? e with
        | none=>rfl
        | some o =>
          obtain⟨o',z⟩:=I2.base.there e o q (O.nex e)
          rw[nw] at z
          cases z
      · rintro rfl
        obtain⟨m,⟨o,_,_,ho,_⟩,_⟩:=I2.loc
        rw[nw] at ho
        cases ho
      · subst z
        obtain⟨v,o,ho,_⟩:=I2.cell y c q
        rw[nw] at ho
        cases ho
      · have ho:=(I2.pin p hp).1
        rw[z,nw] at ho
        cases ho
      · obtain⟨_,o,ho,_⟩:=I2.funs.mem z
        rw[nw] at ho
        cases ho
    refine wpAny_mono (hh e pins { s1 with heap:=h3 } _ _ _ (I5.hanE e X.xe) (k e hn)) (fun f s5 q5=>?_) fun ev s5 q5=>hmk _ ev s5 q5
    have hdl:X.calm=true→X.A.handled=none:=I2.ok.hd
    cases f with
    | next=>obtain⟨σ5,H5,I7,q7⟩:=q5;exact⟨_,H5,I7.unhanE hdl,q7⟩
    | brk=>obtain⟨σ5,H5,I7,q7⟩:=q5;exact⟨_,H5,I7.unhanE hdl,q7⟩
    | cont=>obtain⟨σ5,H5,I7,q7⟩:=q5;exact⟨_,H5,I7.unhanE hdl,q7⟩
    | ret u=>obtain⟨v5,σ5,H5,I7,r7,q7⟩:=q5;exact⟨v5,_,H5,I7.unhanE hdl,r7,q7⟩
end L2
set_option Elab.async false
set_option linter.all false
set_option maxRecDepth 100000
namespace L2
open PySem PySem.Spec PyProof.Rows
def excP (e C d:Addr):HO:=.ext fun h=>∃oe,h.get? e=some oe∧oe.cls = .ref C∧oe.dict=some d∧PySem.W.notCls oe=true
section
variable {P:Program}{w:World}{K:PySem.W.Frag}{mg:Str→Option Value}{base:Heap}
theorem Fun.ok2 {x qual:Str}{st:Stmt}{f:Addr}{fd:FuncData}{N ps:List Str}{k:Nat}{sp:Sp} (F:Fun K x qual st f fd) (S:FnScope N ps (defScope st)) (len:∀vs H Q E,sp vs H Q E→vs.length=ps.length)
    (hbody:∀(cdv:Value) (A:Around) (outer:List Env) (s:Shared) (H:Hp) (vs:List V) (Q:VK) (E:XK),Room k (A.deeper (envOfC qual (defScope st) s.heap.objs.size f cdv))→sp vs H Q E →
      ∃t,PSs (cxOf (CX2 P w) P w K mg base N qual (defScope st) f cdv A outer s H E) (defBody st) t∧t { nx:=fun _ H'=>Q .non H',rt:=Q } (start N vs) H):FnOk P w K mg base (CX2 P w) (k+1) f fd ps sp:=by
  obtain⟨oc,od,kV,doc,pm,an,cdv,ct,osl,rfl,lk,hcd⟩:=F.ex
  exact fn_of lk hcd S len fun A outer s H vs Q E hr hsp=>hbody cdv A outer s H vs Q E hr hsp
theorem Tx.df2 {x:Str}{st:Stmt}{ps N:List Str}{f:Addr}{fd:FuncData}{k:Nat}{sp:Sp} (t:Tx K mg x st ps f fd) (S:FnScope N ps (defScope st)) (len:∀vs H Q E,sp vs H Q E→vs.length=ps.length)
    (hbody:∀(cdv:Value) (A:Around) (outer:List Env) (s:Shared) (H:Hp) (vs:List V) (Q:VK) (E:XK),Room k (A.deeper (envOfC x (defScope st) s.heap.objs.size f cdv))→sp vs H Q E →
      ∃t,PSs (cxOf (CX2 P w) P w K mg base N x (defScope st) f cdv A outer s H E) (defBody st) t∧t { nx:=fun _ H'=>Q .non H',rt:=Q } (start N vs) H):Df P w K mg base (CX2 P w) (k+1) x ps sp f fd :=
  ⟨t.at_,t.fn.kp,t.fn.ok2 S len hbody,.all t.bd⟩
end
abbrev XD:=Value→Addr→St→Hp→Prop
structure PassD (X:Cx) (Ex:XD):Prop where
  on:∀(pins:List (Addr×Obj)) (σ:St) (H:Hp) (s:Shared) (e C d:Addr) (H':Hp) (s':Shared),Inv X pins σ H s→Fly X.prog X.w X.stack H s e C H' s'→DictIs s'.heap e d→Ex (.ref C) d σ H'→X.xe (.ref e) s'
def tryD (X:Cx) (pins:List (Addr×Obj)) (Ex:XD):Cx :=
  { X with pn:=X.pn++pins,xe:=fun ev s'=>∃e C d σ H s H',ev=Value.ref e∧Inv X pins σ H s∧Fly X.prog X.w X.stack H s e C H' s'∧DictIs s'.heap e d∧Ex (.ref C) d σ H' }
def tCallD (sp:Sp) (Ex:XD) (t:TA):TE:=fun σ H Q=>t σ H fun vs H1=>sp vs H1 Q fun c o H'=>∃d,o=some d∧Ex c d σ H'
section
variable {X:Cx}{pins:List (Addr×Obj)}{σ:St}{H H':Hp}{s s':Shared}{e C d:Addr}{Ex:XD}
theorem Inv.tryInD (I:Inv X pins σ H s) (Ex:XD):Inv (tryD X pins Ex) [] σ H s:=by
  obtain⟨⟨o1,o2,o3,o4,o5,o6,o7,o8,o9,o10,o11,o12,o13,o14,o15,o16,o17,o18⟩,i2,i3,i4,i5,i6,i7,i8,i9,i10,i11⟩:=I
  exact⟨⟨o1,o2,o3,o4,o5,o6,o7,o8,o9,o10,o11,o12,o13,o14,o15,o16,o17,o18⟩,i2,i3,i4,i5,i6,i7,i8,fun p hp=>i9 p (by simpa [tryD] using hp),i10,i11⟩
theorem Inv.tryOutD {pins2:List (Addr×Obj)} (I:Inv (tryD X pins Ex) pins2 σ H s):Inv X pins σ H s:=by
  obtain⟨⟨o1,o2,o3,o4,o5,o6,o7,o8,o9,o10,o11,o12,o13,o14,o15,o16,o17,o18⟩,i2,i3,i4,i5,i6,i7,i8,i9,i10,i11⟩:=I
  exact⟨⟨o1,o2,o3,o4,o5,o6,o7,o8,o9,o10,o11,o12,o13,o14,o15,o16,o17,o18⟩,i2,i3,i4,i5,i6,i7,i8,fun p hp=>i9 p (List.mem_append_left _ hp),i10,i11⟩
theorem pass_tryD:PassD (tryD X pins Ex) Ex where
  on:=fun pins2 σ H s e C d H' s' I F dc q=>⟨e,C,d,σ,H,s,H',rfl,I.tryOutD,F,dc,q⟩
theorem pe_d2 {k j:Nat}{f:Addr}{fd:FuncData}{ps:List Str}{sp:Sp}{x:Str}{p pos:Pos}{e:Expr}{es:List Expr}{t:TA} (R:PassD X Ex) (D:Df X.prog X.w X.K X.mg X.base (CX2 X.prog X.w) k x ps sp f fd) (hr:Room j X.A) (hj:k≤j) (hg:Gl X x) (ha:PA X (e::es) t) (hdb:(x == ("__debug__":Str))=false:=by decide) (he:starEach (e::es) X.env=(false,eval e X.env)::starEach es X.env:=by rfl) (hpl:(backTo pos (starEach es X.env)).any (·.1)=false:=by rfl) :
    PE X (.Call (.Name x p) (e::es) [] pos) (tCallD sp Ex t):=by
  intro pins s σ H Q I h
  refine wpAny_Call_Name_kw (ld_glob I hg D.at_ ?_ hdb)
  refine PySem.W.callWith_K (h₀:=X.base) I.ok.mod.kin D.kp (thn (ha pos pins s σ H _ I h) fun us s1 ⟨vs,H1,I1,r,q⟩=>⟨I1.kIn,?_⟩) he hpl
  have hl:us.length=ps.length:=by rw[← r.length];exact D.ok.len _ _ _ _ q
  have hb:=D.bd s1 us I1.kIn (by rw[List.append_nil];exact hl)
  rw[List.append_nil] at hb
  refine wpAny_call (codeAny_mono (D.ok.run X.A X.stack s1 H1 ⟨us,[]⟩ us vs Q _ (hr.mono hj) I1.env0 hb r q) fun r s' hq=>?_)
  cases r with
  | error ev =>
    obtain⟨e,C,d,H',rfl,Fl,dc,d2,ed,q⟩:=hq
    cases ed
    exact R.on pins σ H1 s1 e C d H' s' I1 Fl dc q
  | ok fl =>
    cases fl with
    | ret u=>exact I1.after hq
    | next=>exact False.elim hq
    | brk=>exact False.elim hq
    | cont=>exact False.elim hq
end
def tTryD (tb:XD→TS) (K:PySem.W.Frag) (S:Addr) (i:Nat) (th:TS):TS:=fun D σ H =>
  tb (fun c d σ' H'=>∃C,c = .ref C∧PySem.W.mroIn K C (.ref S)=some true∧∀e,H' e=none →
    th { nx:=fun σ2 H2=>D.nx (σ2.set i none) H2,rt:=D.rt,bk:=fun σ2 H2=>D.bk (σ2.set i none) H2,ct:=fun σ2 H2=>D.ct (σ2.set i none) H2 } (σ'.set i (some (.ref e))) (upd H' e (excP e C d))) D σ H
theorem ps_tryD {X:Cx}{body suite:List Stmt}{b₀:Stmt}{x n:Str}{S:Addr}{i:Nat}{np hpos pos:Pos}{tb:XD→TS}{th:TS} (O:Own X) (hc:X.calm=true) (hb:∀pins Ex,PSs (tryD X pins Ex) body (tb Ex)) (hg:Gl X x) (hm:X.mg x=some (.ref S)) (cS:ExcCls X.K S)
    (hN:X.N.Nodup) (hi:X.N[i]?=some n) (hl:X.env.scope.names.lookup n=some .local) (hh:∀e,PSs (hanX X e) (b₀::suite) th) (hd:(x == ("__debug__":Str))=false:=by decide) :
    PS X (.Try body [.ExceptHandler (some (.Name x np)) (some n) (b₀::suite) hpos] [] [] pos) (tTryD tb X.K S i th):=by
  intro pins s σ H D I h
  refine wpAny_Try_except (wpAny_mono (hb pins _ [] s σ H D (I.tryInD _) h) (fun f s1 q=>?_) fun ev s1 q=>?_)
  · cases f with
    | next=>obtain⟨σ1,H1,I1,q1⟩:=q;exact wpAny_execs_nil ⟨σ1,H1,I1.tryOutD,q1⟩
    | brk=>obtain⟨σ1,H1,I1,q1⟩:=q;exact⟨σ1,H1,I1.tryOutD,q1⟩
    | cont=>obtain⟨σ1,H1,I1,q1⟩:=q;exact⟨σ1,H1,I1.tryOutD,q1⟩
    | ret u=>obtain⟨v1,σ1,H1,I1,r1,q1⟩:=q;exact⟨v1,σ1,H1,I1.tryOutD,r1,q1⟩
  · obtain⟨e,C,dx,σ1,H1,s2,H2,rfl,I2,F,cn,C',ec,hs,k⟩:=q
    cases ec
    have hfr:=I2.ok.frames
    obtain⟨a0,B,fl,go⟩:=F.more
    have st:=O.st
    rw[st] at hfr
    have fl':Heap.FlyingW B (X.env::X.outer) e (.ref C) a0 s1.heap:=st▸fl
    refine wpAny_mono ((KD.note (.ref e) _).any (wpAny_looks_onW (M:=model X.prog X.w) (E:=fun _ _=>False) (Q:=fun _ t=>∃g,t={ s1 with heap:=g }∧Heap.HeldW B (X.env::X.outer) e (.ref C) a0 X.env.locals g∧s1.heap.UpToSlots g) hfr O.fr fl' fun g a b=>⟨g,rfl,a,b⟩)) (fun _ t1 ⟨⟨h1,et,held1,up1⟩,dk1⟩=>?_) fun _ _ z=>z.1.elim
    subst et
    refine wpAny_mono ((KD.setFlight (.ref e) none).any (wpAny_landsW (s:={ s1 with heap:=h1 }) (M:=model X.prog X.w) (E:=fun _ _=>False) (Q:=fun _ t=>∃g,t={ s1 with heap:=g }∧Heap.FlyingW B (X.env::X.outer) e (.ref C) a0 g∧h1.UpToSlots g) held1 fun g a b=>⟨g,rfl,a,b⟩)) (fun _ t2 ⟨⟨h2,et,fl2,up2⟩,dk2⟩=>?_) fun _ _ z=>z.1.elim
    subst et
    have F2:Fly X.prog X.w X.stack H1 s2 e C H2 { s1 with heap:=h2 }:=go h2 (st.symm▸fl2) (up1.trans up2)
    have I3:=F2.inv I2
    have I3h:=I3.han e
    obtain⟨oe,vs,he,hec,_⟩:=F2.obj
    refine wpAny_handleBy_cons (codeAny_handlers_test (ld_glob (X:=hanX X e) I3h hg hm ?_ hd)) (by intro q;cases q)
    refine exc_matches (K:=X.K) I3.kIn cS he hec hs ?_
    refine codeAny_handlers_suite_as ?_
    refine wpAny_mono ((KD.setFlight (.ref e) none).any (lands_againW (s:={ s1 with heap:=h2 }) (M:=model X.prog X.w) (E:=fun _ _=>False) (Q:=fun _ t=>∃g,t={ s1 with heap:=g }∧Heap.FlyingW B (X.env::X.outer) e (.ref C) a0 g∧h2.UpToSlots g) fl2 fun g a b=>⟨g,rfl,a,b⟩)) (fun _ t3 ⟨⟨h3,et,fl3,up3⟩,dk3⟩=>?_) fun _ _ z=>z.1.elim
    subst et
    have F3:Fly X.prog X.w X.stack H1 s2 e C H2 { s1 with heap:=h3 }:=go h3 (st.symm▸fl3) ((up1.trans up2).trans up3)
    have I4:=F3.inv I2
    have nw:=F3.new
    have hn:=F3.untracked
    obtain⟨oe3,vs3,he3,hec3,hda3⟩:=F3.obj
    obtain⟨od,hod,hdd⟩:=((cn.dk dk1).dk dk2).dk dk3
    obtain rfl:od=oe3:=Option.some.inj (hod.symm.trans he3)
    have nc:PySem.W.notCls od=true:=by
      unfold PySem.W.notCls
      rw[hda3]
    have I5:Inv X pins σ1 (upd H2 e (excP e C dx)) { s1 with heap:=h3 }:=by
      refine I4.track hn ?_ ?_ (fun y c q z=>?_) (fun p hp z=>?_) (fun z=>?_) ⟨⟨od,he3,hec3,hdd,nc⟩,⟨od,he3⟩,fun g1 g2 q1 q2=>?_⟩
      · cases q:X.s₀.heap.get? e with
        | none=>rfl
        | some o =>
          obtain⟨o',z⟩:=I2.base.there e o q (O.nex e)
          rw[nw] at z
          cases z
      · rintro rfl
        obtain⟨m,⟨o,_,_,ho,_⟩,_⟩:=I2.loc
        rw[nw] at ho
        cases ho
      · subst z
        obtain⟨v,o,ho,_⟩:=I2.cell y c q
        rw[nw] at ho
        cases ho
      · have ho:=(I2.pin p hp).1
        rw[z,nw] at ho
        cases ho
      · obtain⟨_,o,ho,_⟩:=I2.funs.mem z
        rw[nw] at ho
        cases ho
      · obtain⟨o,z1,z2⟩:=q1
        exact⟨o,q2 o z1,z2⟩
    refine store_ok (X:=hanX X e) (v:=.ref e) (I5.han e) hN hi (.inl hl) rfl (fun s4 I6=>?_) (.inr hl)
    refine wpAny_mono (hh e pins s4 _ _ _ I6 (k e hn)) (fun f s5 q5=>?_) fun _ _ z=>z.elim
    have hdl:X.calm=true→X.A.handled=none:=I2.ok.hd
    cases f with
    | next=>obtain⟨σ5,H5,I7,q7⟩:=q5;exact name_goes (I7.unhan hdl) hN hi hl fun s6 I8=>⟨_,H5,I8,q7⟩
    | brk=>obtain⟨σ5,H5,I7,q7⟩:=q5;exact name_goes (I7.unhan hdl) hN hi hl fun s6 I8=>⟨_,H5,I8,q7⟩
    | cont=>obtain⟨σ5,H5,I7,q7⟩:=q5;exact name_goes (I7.unhan hdl) hN hi hl fun s6 I8=>⟨_,H5,I8,q7⟩
    | ret u=>obtain⟨v5,σ5,H5,I7,r7,q7⟩:=q5;exact name_goes (I7.unhan hdl) hN hi hl fun s6 I8=>⟨v5,_,H5,I8,r7,q7⟩
section
open Builtin Builtin.ObjectAttr
theorem exc_attr {prog:Program}{w:World}{A:Around}{E:Value→Shared→Prop}{s:Shared}{K:PySem.W.Frag}{x C:Addr}{ox od:Obj}{name:Str}{v:Value}{Q:Value→Shared→Prop} (X:K.In s.heap) (c:ExcCls K C) (I:PySem.W.InstAt s.heap x ox C (some od))
    (hh:PySem.W.hasDictIn K C=true) (ha:PySem.W.findIn K (.ref C) name=some none) (hl:PySem.W.lookIn name od=some (some v)) (hv:PySem.W.handedIn v=true)
    (h:Q v { s with toks:=s.toks+1 }):wpAny (model prog w) A (getAttr (.ref x) name true) Q E s:=by
  have L0:=I.type (M:=model prog w)
  have L1:=PySem.W.looks_findIn (M:=model prog w) X c.ga
  have L2:=PySem.W.looks_findIn (M:=model prog w) X c.gx
  have L3:=PySem.W.looks_find (M:=model prog w) X I (PySem.W.findObj_own hh ha rfl hl)
  obtain⟨hp,g,d,t,os⟩:=s
  have hx2:(Value.builtin "BaseException.__getattribute__" == Value.builtin "object.__getattribute__")=false:=by decide +kernel
  have f3:=F.excAttr_ValueError.ga.bind (.ref x)
  unfold getAttr getAttrBy
  refine wpAny_bind (wpAny_mkText (wpAny_holding (wpAny_bind (L0.at (wpAny_bind (L1.at ?_))))))
  dsimp only
  rw[if_neg (by rw[hx2,Bool.and_false];exact Bool.false_ne_true)]
  unfold getAttrByItsOwn hookBefore
  rw[if_pos (show onTheHeap (Value.ref C)=true from rfl)]
  refine wpAny_bind (L2.at ?_)
  refine wpAny_bind (wpAny_attempt (wpAny_holding ?_))
  unfold callGetattribute
  rw[if_neg (by decide)]
  unfold boundAndCalled
  refine wpAny_bind (wpAny_of_eq f3 ?_)
  refine wpAny_call (codeAny_call_builtin F.excAttr_ValueError.ga.plain F.entry_bexc_ga (exc_ga_check X L0 c.mb ?_))
  show wpAny _ _ (Builtin.«object.__getattribute__» ⟨[.ref x,.str name t],[]⟩) _ _ _
  unfold Builtin.«object.__getattribute__»
  refine wpAny_bind (wpAny_of_eq (a:=(Value.ref x,[Value.str name t])) rfl ?_)
  refine wpAny_bind (wpAny_of_eq (a:=name) rfl ?_)
  refine wpAny_bind (L0.at (wpAny_bind (L3.at ?_)))
  refine wpAny_pure ?_
  show wpAny _ _ (handedOut v) _ _ _
  exact PySem.W.handed_on hv h
end
def tExA (K:PySem.W.Frag) (f:Str) (ta:TE):TE:=fun σ H Q=>ta σ H fun x H1=>∃e C d fs i,x = .ref e∧H1 e=some (excP e C d)∧H1 d=some (.xd fs)∧ExcCls K C∧PySem.W.hasDictIn K C=true∧PySem.W.findIn K (.ref C) f=some none∧fs.lookup f=some (.int i)∧Q (.int i) H1
theorem pe_exA {X:Cx}{e:Expr}{f:Str}{pos:Pos}{ta:TE} (K:PySem.W.Frag) (he:PE X e ta) (hb:attributeBase e f X.env (eval e X.env)=eval e X.env:=by rfl) (hK:X.K=K:=by rfl):PE X (.Attribute e f pos) (tExA K f ta):=by
  subst hK
  intro pins s σ H Q I h
  refine attr_of hb (thn (he pins s σ H _ I h) fun u s1 ⟨x,H1,I1,rx,a,C,d,fs,i,ex,h1,h2,c,hh,ha,hl,q⟩=>?_)
  subst ex
  obtain rfl:u=Value.ref a:=rx
  obtain⟨oe,o1,o2,o3,o4⟩:=(show ∃oe,s1.heap.get? a=some oe∧oe.cls = .ref C∧oe.dict=some d∧PySem.W.notCls oe=true from(I1.hok a _ h1).1)
  obtain⟨mA,n1,r1⟩:=(show ∃mA,s1.heap.Ns1 d mA∧∀f,RelO (fs.lookup f) (mA f) from I1.hok d _ h2)
  obtain⟨od,p1,p2⟩:=lookIn_ns n1
  have r:=r1 f
  rw[hl] at r
  cases em:mA f with
  | none=>rw[em] at r;exact False.elim r
  | some v =>
    rw[em] at r
    obtain⟨t,rfl⟩:=(show ∃t,v=Value.int i t from r)
    refine exc_attr I1.kIn c (ox:=oe) (od:=od) ⟨o1,o2,o4,by rw[o3];exact p1⟩ hh ha (by rw[p2,em]) rfl ?_
    exact⟨.int i,H1,I1.tok _,⟨t,rfl⟩,q⟩
end L2
set_option Elab.async false
set_option linter.all false
set_option maxRecDepth 100000
set_option maxHeartbeats 8000000
namespace K19
open PySem L2
seal PE PT PW PA PS PSs PG PGs PI OpR UnR CallR PO SlR IxR MtR MtM PIfs PSet PIp PGet
def top (i:Nat):Stmt:=PySem.Challenge.pw_shareparley_k19_tables_refused.main.body.getD i (.Pass ⟨0,0,0,0⟩)
abbrev sNum:Stmt:=top 14
abbrev sWith:Stmt:=top 15
abbrev sChM:Stmt:=top 16
abbrev sWC:Stmt:=top 19
abbrev sChk:Stmt:=top 20
abbrev sHnd:Stmt:=top 21
abbrev sPts:Stmt:=top 22
abbrev sIsT:Stmt:=top 25
abbrev sHin:Stmt:=top 26
abbrev sCsg:Stmt:=top 30
abbrev sSmd:Stmt:=top 28
abbrev sBsd:Stmt:=top 29
abbrev sCut:Stmt:=top 31
abbrev sMrg:Stmt:=top 32
abbrev sTrd:Stmt:=top 33
abbrev sNWo:Stmt:=top 43
abbrev sNOf:Stmt:=top 64
abbrev sNsO:Stmt:=top 65
abbrev sROf:Stmt:=top 68
abbrev sMOf:Stmt:=top 69
abbrev sRea:Stmt:=top 70
abbrev sSho:Stmt:=top 71
abbrev sCel:Stmt:=top 73
abbrev sNms:Stmt:=top 74
abbrev sSms:Stmt:=top 75
abbrev sNon:Stmt:=top 76
abbrev sTol:Stmt:=top 77
abbrev sRef:Stmt:=top 78
abbrev sWds:Stmt:=top 79
abbrev sAga:Stmt:=top 80
abbrev sLaw:Stmt:=top 81
abbrev sRI:Stmt:=inClass (top 45) 0
abbrev sHs:Stmt:=inClass (top 45) 1
abbrev sErn:Stmt:=inClass (top 45) 2
abbrev sRR:Stmt:=inClass (top 45) 3
abbrev sPI:Stmt:=inClass (top 49) 0
abbrev sPR:Stmt:=inClass (top 49) 1
abbrev sPlW:Stmt:=inClass (top 49) 2
abbrev sCI:Stmt:=inClass (top 36) 0
abbrev sCH:Stmt:=inClass (top 36) 1
abbrev sCE:Stmt:=inClass (top 36) 2
abbrev sCT:Stmt:=inClass (top 36) 3
abbrev sCW:Stmt:=inClass (top 36) 4
abbrev sXI:Stmt:=inClass (top 5) 0
theorem inB_natM {v:V}{m:Nat} (h1:inB 0 (2^m-1) v=true):∃g:Nat,v = .int (g:Int)∧g<2^m:=by
  cases v with
  | int i =>
    have z:(decide (0≤i)&&decide (i≤2^m-1))=true:=h1
    rw[Bool.and_eq_true] at z
    have z1:=of_decide_eq_true z.1
    have z2:=of_decide_eq_true z.2
    have e:((2^m:Nat):Int)=2^m:=by push_cast;rfl
    exact⟨i.toNat,by rw[Int.toNat_of_nonneg z1],by omega⟩
  | _=>exact(Bool.false_ne_true h1).elim
theorem nat_inB {g m:Nat} (hg:g<2^m):inB 0 (2^m-1) (.int (g:Int))=true:=by
  show(decide (0≤(g:Int))&&decide ((g:Int)≤2^m-1))=true
  have e:((2^m:Nat):Int)=2^m:=by push_cast;rfl
  rw[decide_eq_true (by omega),decide_eq_true (by omega)]
  rfl
def aloneL:List Int:=[1,2,4,8,16,32]
def alone (i:Nat):Int:=aloneL.getD i 0
def handF (g:Nat) (i:Nat):Option V:=if Builtin.bitAnd (g:Int) (alone i)=0 then none else some (.int (i:Int))
def hN (g:Nat):Nat→List Int
  | 0=>[]
  | i+1=>if g/2^i%2=1 then hN g i++[(i:Int)] else hN g i
def hands (g:Nat):List Int:=hN g 6
theorem hands_comp:∀g:_root_.Fin 64,(List.range 6).filterMap (handF g.1)=(hands g.1).map V.int:=by decide +kernel
def preS (ns:List Int) (g:Nat):Nat→Int
  | 0=>0
  | i+1=>if g/2^i%2=1 then preS ns g i+ns.getD i 0 else preS ns g i
def sumH (ns:List Int) (g:Nat):Int:=preS ns g ns.length
theorem cut_lo (xs:List V) (n:Nat):cutV xs (some (n:Int)) none=xs.drop n:=by
  unfold cutV
  rw[HT.sIx_nat,HT.sIx_none]
  rcases Nat.le_total n xs.length with h | h
  · rw[Nat.min_eq_left h]
    exact List.take_of_length_le (by rw[List.length_drop];omega)
  · rw[Nat.min_eq_right h,List.drop_length,List.drop_of_length_le h]
    simp
theorem cut_hi (xs:List V) (n:Nat):cutV xs none (some (n:Int))=xs.take n:=by
  unfold cutV
  rw[HT.sIx_nat,HT.sIx_none,List.drop_zero,Nat.sub_zero]
  rcases Nat.le_total n xs.length with h | h
  · rw[Nat.min_eq_left h]
  · rw[Nat.min_eq_right h,List.take_length,List.take_of_length_le h]
theorem pow6 {m:Nat} (h:m≤6):2^m≤64:=Nat.pow_le_pow_right (n:=2) (by decide) h
theorem pl_ints {K:PySem.W.Frag}{H:Hp}{ns:List Int}:∀u∈ns.map V.int,Pl K H u:=fun u hu=>by
  obtain⟨x,_,rfl⟩:=List.mem_map.mp hu
  exact .int x
theorem all_ints (ns:List Int):(ns.map V.int).all isI=true:=by
  induction ns with
  | nil=>rfl
  | cons n r ih=>exact ih
theorem fm_congr {α β:Type}{f g:α→Option β}:∀{l:List α},(∀x∈l,f x=g x)→l.filterMap f=l.filterMap g
  | [],_=>rfl
  | x::r,h=>by
    rw[List.filterMap_cons,List.filterMap_cons,h x (by simp),fm_congr fun y hy=>h y (by simp[hy])]
def lensL:List Int:=[1,2,4,8,16,32,64]
structure RC (K:PySem.W.Frag) (fE fH RU C g:Addr):Prop where
  oc:OCls K C
  nm:NoAttr K C "many"
  me:Meth K C "earn" fE
  mh:Meth K C "hands" fH
  mr:Meth K C "reckon" g
  isR:PySem.W.kitOne K (.ref C) (.ref RU)=some true
def noMeth (fs:List (Str×V)):Prop:=fs.lookup ("earn":Str)=none∧fs.lookup ("hands":Str)=none∧fs.lookup ("reckon":Str)=none
def RObj (P:Program) (w:World) (K:PySem.W.Frag) (mg:Str→Option Value) (base:Heap) (fE fH RU:Addr) (H:Hp) (a:Addr) (m:Nat) (e:Nat→Int):Prop :=
  ∃(C dx g:Addr) (fs:List (Str×V)),H a=some (.ins C dx fs)∧RC K fE fH RU C g∧fs.lookup ("many":Str)=some (.int (m:Int))∧1≤m∧m≤6∧noMeth fs ∧
    ∃ps,Md P w K mg base 6 ps (fun vs H2 Q _=>∃gr:Nat,vs=[.ref a,.int (gr:Int)]∧gr<2^m∧Same H H2∧∀H3,Same H2 H3→Q (.int (e gr)) H3) g
theorem RObj.same {P:Program}{w:World}{K:PySem.W.Frag}{mg:Str→Option Value}{base:Heap}{fE fH RU:Addr}{H H':Hp}{a:Addr}{m:Nat}{e:Nat→Int} (r:RObj P w K mg base fE fH RU H a m e) (s:Same H H'):RObj P w K mg base fE fH RU H' a m e:=by
  obtain⟨C,dx,g,fs,h1,h2,h3,h4,h5,h6,ps,h7⟩:=r
  exact⟨C,dx,g,fs,s _ _ h1,h2,h3,h4,h5,h6,ps,h7.imp fun vs H2 Q _ ⟨gr,a,b,c,d⟩=>⟨gr,a,b,s.trans c,d⟩⟩
def okN (xs:List V):Bool:=decide (1≤xs.length)&&decide (xs.length≤6)&&xs.all isI
theorem inB_16 (n:Nat):inB 1 6 (.int (n:Int))=(decide (1≤n)&&decide (n≤6)):=by
  show(decide (1≤(n:Int))&&decide ((n:Int)≤6))=_
  rw[Bool.eq_iff_iff,Bool.and_eq_true,Bool.and_eq_true,decide_eq_true_iff,decide_eq_true_iff,decide_eq_true_iff,decide_eq_true_iff]
  omega
structure CC (K:PySem.W.Frag) (C fe fh ft fw:Addr):Prop where
  oc:OCls K C
  nm:NoAttr K C "many"
  nr:NoAttr K C "rules"
  me:Meth K C "earn" fe
  mh:Meth K C "hands" fh
  mt:Meth K C "table" ft
  mw:Meth K C "words" fw
structure T (K:PySem.W.Frag) (mg:Str→Option Value) (AL LN RU PL CO fE fH rR rP iR iP wP iC cH cE cT cW iX SE NG NN NO NR NL NS NT NX NV TM UL:Addr):Prop where
  b_isi:mg "isinstance"=none
  b_int:mg "int"=none
  b_bool:mg "bool"=none
  b_range:mg "range"=none
  b_len:mg "len"=none
  b_list:mg "list"=none
  b_ve:mg "ValueError"=none
  b_sum:mg "sum"=none
  b_all:mg "all"=none
  b_any:mg "any"=none
  b_zip:mg "zip"=none
  b_tuple:mg "tuple"=none
  b_min:mg "min"=none
  b_abs:mg "abs"=none
  b_enum:mg "enumerate"=none
  b_str:mg "str"=none
  mAL:mg "ALONE"=some (.ref AL)
  al:∀H:Hp,SqT K H AL (aloneL.map V.int)
  mLN:mg "LENGTHS"=some (.ref LN)
  ln:∀H:Hp,SqT K H LN (lensL.map V.int)
  tyL:∃o,K.lookup LN=some o∧o.cls = .type "tuple"∧o.dict=none
  mr:∃tk,mg "MOST_RULES"=some (.int 12 tk)
  mf:∃tk,mg "MOST_FIGURES"=some (.int 30 tk)
  fg:∃tk,mg "FIGURES"=some (.str ("0123456789":Str) tk)
  mRU:mg "Rule"=some (.ref RU)
  rRU:RC K fE fH RU RU rR
  kRU:Mk K RU iR
  mPL:mg "Plain"=some (.ref PL)
  rPL:RC K fE fH RU PL rP
  kPL:Mk K PL iP
  nPL:NoAttr K PL "earnings"
  mCO:mg "Company"=some (.ref CO)
  rCO:CC K CO cE cH cT cW
  kCO:Mk K CO iC
  wPL:Meth K PL "words" wP
  xRI:∃fd,Mx K "__init__" "Rule.__init__" sRI ["self","many"] iR fd
  xH:∃fd,Mx K "hands" "Rule.hands" sHs ["self"] fH fd
  xE:∃fd,Mx K "earn" "Rule.earn" sErn ["self","group"] fE fd
  xRR:∃fd,Mx K "reckon" "Rule.reckon" sRR ["self","group"] rR fd
  xPI:∃fd,Mx K "__init__" "Plain.__init__" sPI ["self","table"] iP fd
  xPR:∃fd,Mx K "reckon" "Plain.reckon" sPR ["self","group"] rP fd
  xPlW:∃fd,Mx K "words" "Plain.words" sPlW ["self"] wP fd
  xCI:∃fd,Mx K "__init__" "Company.__init__" sCI ["self","many","rules"] iC fd
  xCHs:∃fd,Mx K "hands" "Company.hands" sCH ["self"] cH fd
  xCEn:∃fd,Mx K "earn" "Company.earn" sCE ["self","group"] cE fd
  xCTb:∃fd,Mx K "table" "Company.table" sCT ["self"] cT fd
  xCWo:∃fd,Mx K "words" "Company.words" sCW ["self"] cW fd
  xXI:∃fd,Mx K "__init__" "NoText.__init__" sXI ["self","part"] iX fd
  cRI:CMeth K RU "__init__" iR
  iNX:ExcI K NX SE iX
  pNX:PySem.W.findIn K (.ref NX) "part"=some none
  uNL:PySem.W.mroIn K NL (.ref NL)=some true
  uNX:PySem.W.mroIn K NX (.ref NX)=some true
  kSE:CInit K SE
  mSE:mg "ShareError"=some (.ref SE)
  mNG:mg "NoGroup"=some (.ref NG)
  mNN:mg "NoNumber"=some (.ref NN)
  mNO:mg "NoOrder"=some (.ref NO)
  mNR:mg "NoRows"=some (.ref NR)
  mNL:mg "NoRule"=some (.ref NL)
  mNS:mg "NoShares"=some (.ref NS)
  mNT:mg "NoTable"=some (.ref NT)
  mNX:mg "NoText"=some (.ref NX)
  mNV:mg "NoVotes"=some (.ref NV)
  mTM:mg "TooMany"=some (.ref TM)
  mUL:mg "Unlike"=some (.ref UL)
  cSE:ExcCls K SE
  cNL:ExcCls K NL
  cNX:ExcCls K NX
  cNT:ExcCls K NT
  xNT:PySem.W.excIn K NT bmV "ValueError.__new__"=true
  up:PySem.W.mroIn K NT (.ref SE)=some true
  k1:PySem.W.kitOne K (.ref NT) (.ref NT)=some true
  k2:PySem.W.kitOne K (.ref NT) (.type "ValueError")=some true
  k3:PySem.W.kitAny K (.ref NT) [.ref NG,.ref NN,.ref NO,.ref NR,.ref NL]=some false
  k4:PySem.W.kitAny K (.ref NT) [.ref NS,.ref NX,.ref NV,.ref TM,.ref UL]=some false
  xNL:PySem.W.excIn K NL bmV "ValueError.__new__"=true
  xNG:PySem.W.excIn K NG bmV "ValueError.__new__"=true
  xUL:PySem.W.excIn K UL bmV "ValueError.__new__"=true
  xTM:PySem.W.excIn K TM bmV "ValueError.__new__"=true
  xSE:PySem.W.excIn K SE bmV "ValueError.__new__"=true
section
variable {P:Program}{w:World}{K:PySem.W.Frag}{mg:Str→Option Value}{base:Heap}{AL LN RU PL CO fE fH rR rP iR iP wP iC cH cE cT cW iX SE NG NN NO NR NL NS NT NX NV TM UL:Addr}{f:Addr}{fd:FuncData}
def spNum (K:PySem.W.Frag):Sp:=fun vs H Q _=>∃v,vs=[v]∧Pl K H v∧Q (.bl (isI v)) H
theorem scNum:FnScope ["thing"] ["thing"] (defScope sNum):=⟨rfl,rfl,rfl,by decide +kernel,rfl,by decide +kernel,by decide +kernel⟩
theorem ok_num (t:Tx K mg "is_number" sNum ["thing"] f fd) (T:T K mg AL LN RU PL CO fE fH rR rP iR iP wP iC cH cE cT cW iX SE NG NN NO NR NL NS NT NX NV TM UL):Df P w K mg base CX0 1 "is_number" ["thing"] (spNum K) f fd:=by
  refine t.df0 scNum (fun vs H Q E h=>?_) (fun cdv A outer s H vs Q E hr h=>?_)
  · obtain⟨v,rfl,_⟩:=h
    rfl
  · obtain⟨v,rfl,pl,k⟩:=h
    obtain⟨Ty,ty,kd⟩:=pl.ex
    refine⟨_,pss_one (ps_ret (pe_and (pe_callB call_isi (by rfl) T.b_isi bt_isi (pa_cons (pv 0) (pa_cons (pe_bltn (v:=.ty "int") (by rfl) T.b_int bt_int rfl) pa_nil)))
      (pe_one (pe_not (pe_callB call_isi (by rfl) T.b_isi bt_isi (pa_cons (pv 0) (pa_cons (pe_bltn (v:=.ty "bool") (by rfl) T.b_bool bt_bool rfl) pa_nil))))))),?_⟩
    refine⟨_,rfl,v,.ty "int",_,_,_,rfl,rfl,.of ty,kd.int_ K,_,rfl,?_⟩
    refine ite2 (fun h1=>?_) (fun h1=>?_)
    · refine⟨_,rfl,v,.ty "bool",_,_,_,rfl,rfl,.of ty,kd.bool_ K,_,rfl,?_⟩
      have e:(!(Ty == "bool"))=isI v:=by
        rw[Pl.isI ty]
        cases kd <;> first | rfl | (exact absurd h1 (by decide))
      rw[e]
      exact k
    · have e:false=isI v:=by
        rw[Pl.isI ty]
        cases kd <;> first | rfl | (exact absurd rfl h1)
      rw[e]
      exact k
def spWith (K:PySem.W.Frag):Sp:=fun vs H Q _=>∃(v:V) (lo hi:Int),vs=[v,.int lo,.int hi]∧Pl K H v∧Q (.bl (inB lo hi v)) H
theorem scWith:FnScope ["thing","least","most"] ["thing","least","most"] (defScope sWith):=⟨rfl,rfl,rfl,by decide +kernel,rfl,by decide +kernel,by decide +kernel⟩
theorem ok_with {f1:Addr}{fd1:FuncData} (t:Tx K mg "is_number_within" sWith ["thing","least","most"] f fd) (D:Df P w K mg base CX0 1 "is_number" ["thing"] (spNum K) f1 fd1) :
    Df P w K mg base CX0 2 "is_number_within" ["thing","least","most"] (spWith K) f fd:=by
  refine t.df0 scWith (fun vs H Q E h=>?_) (fun cdv A outer s H vs Q E hr h=>?_)
  · obtain⟨v,lo,hi,rfl,_⟩:=h
    rfl
  · obtain⟨v,lo,hi,rfl,pl,k⟩:=h
    refine⟨_,pss_one (ps_ret (pe_and (pe_d0 D hr (Nat.le_refl _) (by rfl) (pa_cons (pv 0) pa_nil)) (pe_one (pe_chain op_le op_le (pv 1) (pv 0) (pv 2))))),?_⟩
    refine⟨_,rfl,v,rfl,pl,_,rfl,?_⟩
    cases v with
    | int i =>
      refine iteT ⟨_,rfl,_,rfl,lo,i,rfl,rfl,_,rfl,?_⟩
      refine ite2 (fun h1=>⟨_,rfl,i,hi,rfl,rfl,?_⟩) (fun h1=>?_)
      · have e:decide (i≤hi)=inB lo hi (.int i):=by
          show _=(decide (lo≤i)&&decide (i≤hi))
          rw[h1,Bool.true_and]
        show Q (.bl (decide (i≤hi))) H
        rw[e]
        exact k
      · have e:false=inB lo hi (.int i):=by
          show _=(decide (lo≤i)&&decide (i≤hi))
          rw[Bool.eq_false_iff.mpr h1,Bool.false_and]
        rw[e]
        exact k
    | _=>exact iteF k
def spChM (K:PySem.W.Frag) (NL:Addr):Sp:=fun vs H Q E=>∃v,vs=[v]∧Pl K H v∧if inB 1 6 v=true then Q .non H else E (.ref NL) none H
theorem scChM:FnScope ["many"] ["many"] (defScope sChM):=⟨rfl,rfl,rfl,by decide +kernel,rfl,by decide +kernel,by decide +kernel⟩
theorem ok_chm {f1:Addr}{fd1:FuncData} (t:Tx K mg "check_many" sChM ["many"] f fd) (T:T K mg AL LN RU PL CO fE fH rR rP iR iP wP iC cH cE cT cW iX SE NG NN NO NR NL NS NT NX NV TM UL) (D_is_number_within:Df P w K mg base CX0 2 "is_number_within" ["thing","least","most"] (spWith K) f1 fd1) :
    Df P w K mg base (CX1 P w) 3 "check_many" ["many"] (spChM K NL) f fd:=by
  refine t.df1 scChM (fun vs H Q E h=>?_) (fun cdv A outer s H vs Q E hr h=>?_)
  · obtain⟨v,rfl,_⟩:=h
    rfl
  · obtain⟨v,rfl,pl,k⟩:=h
    refine⟨_,(pss_one (ps_if (pt_not (pt_val (pe_d0 D_is_number_within hr (by decide) (by rfl) (pa_cons (pv 0) (pa_cons pe_int (pa_cons pe_int pa_nil)))))) (pss_one (ps_raise rais_def rfl (by rfl) T.mNL T.xNL (pa_cons pe_str pa_nil))) pss_nil)),?_⟩
    refine⟨_,rfl,v,1,6,rfl,pl,_,rfl,?_⟩
    cases e:inB 1 6 v with
    | true =>
      rw[e,if_pos rfl] at k
      exact iteF k
    | false =>
      rw[e,if_neg Bool.false_ne_true] at k
      exact iteT ⟨by show 1≤sizeLine;decide,k⟩
def spWC:Sp:=fun vs H Q _=>∃m:Nat,vs=[.int (m:Int)]∧m≤6∧∀H',Same H H'→Q (.int (2^m-1)) H'
theorem alone_sum:∀m:_root_.Fin 7,(aloneL.take m.1).sum=2^m.1-1:=by decide
theorem scWC:FnScope ["many"] ["many"] (defScope sWC):=⟨rfl,rfl,rfl,by decide +kernel,rfl,by decide +kernel,by decide +kernel⟩
theorem ok_wc (t:Tx K mg "whole_company" sWC ["many"] f fd) (T:T K mg AL LN RU PL CO fE fH rR rP iR iP wP iC cH cE cT cW iX SE NG NN NO NR NL NS NT NX NV TM UL):Df P w K mg base CX0 1 "whole_company" ["many"] spWC f fd:=by
  refine t.df0 scWC (fun vs H Q E h=>?_) (fun cdv A outer s H vs Q E hr h=>?_)
  · obtain⟨m,rfl,_⟩:=h
    rfl
  · obtain⟨m,rfl,hm,k⟩:=h
    refine⟨_,(pss_one (ps_ret (pe_callB (call_sum rfl) (by rfl) T.b_sum bt_sum (pa_cons (pe_slice sl_tupA (pe_glob (v:=.ref AL) (by rfl) T.mAL rfl) po_none (po_some (pv 0))) pa_nil)))),?_⟩
    refine⟨_,rfl,_,rfl,AL,_,rfl,T.al _,fun p H' s hq=>⟨p,aloneL.take m,rfl,.inr ?_,?_⟩⟩
    · rw[cut_hi,← List.map_take] at hq
      exact hq
    · rw[alone_sum ⟨m,by omega⟩]
      exact k H' s
def spChk (K:PySem.W.Frag) (NG:Addr):Sp:=fun vs H Q E=>∃(v:V) (m:Nat),vs=[v,.int (m:Int)]∧m≤6∧Pl K H v∧(inB 0 (2^m-1) v=false→∀H',Same H H'→E (.ref NG) none H')∧(inB 0 (2^m-1) v=true→∀H',Same H H'→Q .non H')
theorem scChk:FnScope ["group","many"] ["group","many"] (defScope sChk):=⟨rfl,rfl,rfl,by decide +kernel,rfl,by decide +kernel,by decide +kernel⟩
theorem ok_chk {f1 f2:Addr}{fd1 fd2:FuncData} (t:Tx K mg "check_group" sChk ["group","many"] f fd) (T:T K mg AL LN RU PL CO fE fH rR rP iR iP wP iC cH cE cT cW iX SE NG NN NO NR NL NS NT NX NV TM UL) (D_is_number_within:Df P w K mg base CX0 2 "is_number_within" ["thing","least","most"] (spWith K) f1 fd1)
    (D_whole_company:Df P w K mg base CX0 1 "whole_company" ["many"] spWC f2 fd2):Df P w K mg base (CX1 P w) 3 "check_group" ["group","many"] (spChk K NG) f fd:=by
  refine t.df1 scChk (fun vs H Q E h=>?_) (fun cdv A outer s H vs Q E hr h=>?_)
  · obtain⟨v,m,rfl,_⟩:=h
    rfl
  · obtain⟨v,m,rfl,hm,pl,k0,k⟩:=h
    refine⟨_,(pss_one (ps_if (pt_not (pt_val (pe_d0 D_is_number_within hr (by decide) (by rfl) (pa_cons (pv 0) (pa_cons pe_int (pa_cons (pe_d0 D_whole_company hr (by decide) (by rfl) (pa_cons (pv 1) pa_nil)) pa_nil)))))) (pss_one (ps_raise rais_def rfl (by rfl) T.mNG T.xNG (pa_cons pe_str pa_nil))) pss_nil)),?_⟩
    refine⟨_,rfl,_,rfl,m,rfl,hm,fun H' s=>⟨v,0,_,rfl,pl.same s,_,rfl,?_⟩⟩
    cases e:inB 0 (2^m-1) v with
    | true=>exact iteF (k e H' s)
    | false=>exact iteT ⟨by show 1≤sizeLine;decide,k0 e H' s⟩
theorem alone_at {i:Int} (h0:0≤i) (h5:i≤5):atI (aloneL.map V.int) i=some (.int (alone i.toNat)):=by
  have h:i.toNat<6:=by omega
  have all:∀j:_root_.Fin 6,(aloneL.map V.int)[j.1]?=some (.int (alone j.1)):=by decide
  have z:=atI_nat (all ⟨i.toNat,h⟩)
  rw[show(((⟨i.toNat,h⟩:_root_.Fin 6).1:Nat):Int)=i from Int.toNat_of_nonneg h0] at z
  exact z
def spHnd (K:PySem.W.Frag) (NG:Addr):Sp:=fun vs H Q E=>∃v,vs=[v]∧Pl K H v∧(inB 0 (2^6-1) v=false→∀H',Same H H'→E (.ref NG) none H') ∧
  ∀(g:Nat) (l:Addr) (H':Hp),v = .int (g:Int)→g<64→H l=none→Same H H'→H' l=some (.lst ((hands g).map V.int))→Q (.ref l) H'
theorem scHnd:FnScope ["group"] ["group"] (defScope sHnd):=⟨rfl,rfl,rfl,by decide +kernel,rfl,by decide +kernel,by decide +kernel⟩
theorem ok_hnd {f1:Addr}{fd1:FuncData} (t:Tx K mg "hands_of" sHnd ["group"] f fd) (T:T K mg AL LN RU PL CO fE fH rR rP iR iP wP iC cH cE cT cW iX SE NG NN NO NR NL NS NT NX NV TM UL) (D_check_group:Df P w K mg base (CX1 P w) 3 "check_group" ["group","many"] (spChk K NG) f1 fd1) :
    Df P w K mg base (CX1 P w) 4 "hands_of" ["group"] (spHnd K NG) f fd:=by
  refine t.df1 scHnd (fun vs H Q E h=>?_) (fun cdv A outer s H vs Q E hr h=>?_)
  · obtain⟨v,rfl,_⟩:=h
    rfl
  · obtain⟨v,rfl,pl,k0,k⟩:=h
    refine⟨_,(pss_cons (ps_expr (pe_d1 rais_def.toPass D_check_group hr (by decide) (by rfl) (pa_cons (pv 0) (pa_cons (pe_callB call_len_seq (by rfl) T.b_len bt_len (pa_cons (pe_glob (v:=.ref AL) (by rfl) T.mAL rfl) pa_nil)) pa_nil))))
      (pss_one (ps_ret (pe_comp (NB:=["hand","group"]) (pick:=[none,some 0]) (blk_mk (by with_unfolding_all rfl) (by exact(And.intro rfl trivial)) rfl (by decide +kernel) (by decide +kernel) (by rfl) (by rfl)) rfl
          (pi_range1 (by rfl) T.b_range (pa_cons (pe_callB call_len_seq (by rfl) T.b_len bt_len (pa_cons (pe_glob (v:=.ref AL) (by rfl) T.mAL rfl) pa_nil)) pa_nil)) (fun _ _ _=>pg_name (i:=0) (show(["hand","group"]:List Str).Nodup from by decide +kernel) rfl (Or.inl rfl))
          (fun _ _ _=>pif_one (pt_cmpR op_ne (pe_op op_and (pv 1) (pe_ix (ix_tupK K) (pe_glob (v:=.ref AL) (by rfl) T.mAL rfl) (pv 0) (fun _ _=>rfl))) pe_int (nomark _))) (fun _ _ _=>(pv 0)))))),?_⟩
    refine⟨_,rfl,AL,_,rfl,.inr (T.al _),v,6,rfl,by decide,pl,k0,fun h1 H' s1=>?_⟩
    obtain⟨g,rfl,hg⟩:=inB_natM h1
    have hg:g<64:=hg
    refine⟨AL,_,rfl,.inr (T.al _),_,rfl,by decide,by decide,?_⟩
    refine comp_itr (handF g) (by decide) (fun i H2 kk kk0 hi h1 h2=>?_) fun D hD=>?_
    · obtain⟨j,rfl⟩:∃j:Nat,j=i:=⟨i,rfl⟩
      have e0:(0:Int)+(j:Int)=(j:Int):=Int.zero_add _
      have hat:atI (aloneL.map V.int) ((0:Int)+(j:Int))=some (.int (alone j)):=by
        rw[e0]
        have z:=alone_at (i:=(j:Int)) (by omega) (by have:j<6:=hi;omega)
        simpa using z
      refine⟨_,rfl,_,rfl,AL,_,_,_,rfl,rfl,T.al _,hat,_,_,rfl,rfl,rfl,_,rfl,?_⟩
      refine ite2 (fun h3=>⟨_,rfl,h1 _ ?_⟩) (fun h3=>h2 ?_)
      · have z:¬V.int (Builtin.bitAnd (g:Int) (alone j))=V.int 0:=of_decide_eq_false (by
          have z:(!decide (V.int (Builtin.bitAnd (g:Int) (alone j))=V.int 0))=true:=h3
          simpa using z)
        rw[e0]
        unfold handF
        rw[if_neg fun q=>z (congrArg V.int q)]
      · unfold handF
        refine if_pos (Classical.byContradiction fun q=>h3 ?_)
        show(!decide (V.int (Builtin.bitAnd (g:Int) (alone j))=V.int 0))=true
        rw[decide_eq_false fun z=>q (V.int.inj z)]
        rfl
    · have e':(List.range 6).filterMap (handF g)=(hands g).map V.int:=hands_comp ⟨g,hg⟩
      show Q _ (upd H' D (.lst ((List.range 6).filterMap (handF g))))
      rw[e']
      exact k g D _ rfl hg (s1.free hD) (s1.trans (.upd_new hD)) upd_same
def partsN (g:Nat):List Int:=((List.range (g+1)).filter fun(i:Nat)=>decide (Builtin.bitAnd (i:Int) (g:Int)=(i:Int))).map fun(i:Nat)=>(i:Int)
def partF (g:Nat) (i:Nat):Option V:=if Builtin.bitAnd (i:Int) (g:Int)=(i:Int) then some (.int (i:Int)) else none
theorem partsV (g:Nat):(List.range (g+1)).filterMap (partF g)=(partsN g).map V.int:=by
  unfold partsN
  generalize List.range (g+1)=l
  induction l with
  | nil=>rfl
  | cons i r ih =>
    by_cases h:Builtin.bitAnd (i:Int) (g:Int)=(i:Int)
    · rw[List.filterMap_cons_some (b:=V.int (i:Int)) (by unfold partF;rw[if_pos h]),List.filter_cons_of_pos (by simpa using h)]
      simp[ih]
    · rw[List.filterMap_cons_none (by unfold partF;rw[if_neg h]),List.filter_cons_of_neg (by simpa using h)]
      exact ih
theorem partsN_in {g:Nat}{x:Int} (h:x∈partsN g):∃p:Nat,x=(p:Int)∧p≤g:=by
  unfold partsN at h
  obtain⟨p,hp,rfl⟩:=List.mem_map.mp h
  have:=List.mem_range.mp (List.mem_filter.mp hp).1
  exact⟨p,rfl,by omega⟩
theorem partsN_len (g:Nat):(partsN g).length≤g+1:=by
  unfold partsN
  rw[List.length_map]
  exact Nat.le_trans (List.length_filter_le _ _) (Nat.le_of_eq List.length_range)
def spPts (K:PySem.W.Frag) (NG:Addr):Sp:=fun vs H Q E=>∃v,vs=[v]∧Pl K H v∧(inB 0 (2^6-1) v=false→∀H',Same H H'→E (.ref NG) none H') ∧
  ∀(g:Nat) (l:Addr) (H':Hp),v = .int (g:Int)→g<64→H l=none→Same H H'→H' l=some (.lst ((partsN g).map V.int))→Q (.ref l) H'
theorem scPts:FnScope ["group"] ["group"] (defScope sPts):=⟨rfl,rfl,rfl,by decide +kernel,rfl,by decide +kernel,by decide +kernel⟩
theorem ok_pts {f1:Addr}{fd1:FuncData} (t:Tx K mg "parts_of" sPts ["group"] f fd) (T:T K mg AL LN RU PL CO fE fH rR rP iR iP wP iC cH cE cT cW iX SE NG NN NO NR NL NS NT NX NV TM UL) (D_check_group:Df P w K mg base (CX1 P w) 3 "check_group" ["group","many"] (spChk K NG) f1 fd1) :
    Df P w K mg base (CX1 P w) 4 "parts_of" ["group"] (spPts K NG) f fd:=by
  refine t.df1 scPts (fun vs H Q E h=>?_) (fun cdv A outer s H vs Q E hr h=>?_)
  · obtain⟨v,rfl,_⟩:=h
    rfl
  · obtain⟨v,rfl,pl,k0,k⟩:=h
    refine⟨_,(pss_cons (ps_expr (pe_d1 rais_def.toPass D_check_group hr (by decide) (by rfl) (pa_cons (pv 0) (pa_cons (pe_callB call_len_seq (by rfl) T.b_len bt_len (pa_cons (pe_glob (v:=.ref AL) (by rfl) T.mAL rfl) pa_nil)) pa_nil))))
      (pss_one (ps_ret (pe_comp (NB:=["part","group"]) (pick:=[none,some 0]) (blk_mk (by with_unfolding_all rfl) (by exact(And.intro rfl trivial)) rfl (by decide +kernel) (by decide +kernel) (by rfl) (by rfl)) rfl
          (pi_range1 (by rfl) T.b_range (pa_cons (pe_op op_add (pv 0) pe_int) pa_nil)) (fun _ _ _=>pg_name (i:=0) (show(["part","group"]:List Str).Nodup from by decide +kernel) rfl (Or.inl rfl))
          (fun _ _ _=>pif_one (pt_cmpR op_eq (pe_op op_and (pv 0) (pv 1)) (pv 0) (nomark _))) (fun _ _ _=>(pv 0)))))),?_⟩
    refine⟨_,rfl,AL,_,rfl,.inr (T.al _),v,6,rfl,by decide,pl,k0,fun h1 H' s1=>?_⟩
    obtain⟨g,rfl,hg⟩:=inB_natM h1
    have hg:g<64:=hg
    refine⟨_,rfl,_,_,rfl,rfl,_,rfl,by omega,by omega,?_⟩
    have e:((g:Int)+1).toNat=g+1:=by omega
    rw[e]
    refine comp_itr (partF g) (Nat.le_trans (show g+1≤1000 by omega) (Nat.le_of_lt (small1000 (Nat.le_refl _)))) (fun i H2 kk kk0 hi h1 h2=>?_) fun D hD=>?_
    · have e0:(0:Int)+(i:Int)=(i:Int):=Int.zero_add _
      refine⟨_,rfl,_,rfl,_,_,rfl,rfl,_,rfl,rfl,_,rfl,?_⟩
      refine ite2 (fun h3=>⟨_,rfl,h1 _ ?_⟩) (fun h3=>h2 ?_)
      · have z:V.int (Builtin.bitAnd (0+(i:Int)) (g:Int))=V.int (0+(i:Int)):=of_decide_eq_true h3
        rw[e0] at z⊢
        unfold partF
        rw[if_pos (V.int.inj z)]
      · unfold partF
        refine if_neg fun q=>h3 ?_
        show decide (V.int (Builtin.bitAnd (0+(i:Int)) (g:Int))=V.int (0+(i:Int)))=true
        rw[e0,q]
        exact decide_eq_true rfl
    · rw[partsV]
      exact k g D _ rfl hg (s1.free hD) (s1.trans (.upd_new hD)) upd_same
def tabB (xs:List V):Bool:=[2,4,8,16,32,64].contains xs.length&&xs.all isI&&decide (xs[0]?=some (.int 0))
def spIsT (K:PySem.W.Frag):Sp:=fun vs H Q _=>∃(p:Addr) (xs:List V),vs=[.ref p]∧H p=some (.lst xs)∧(∀v∈xs,Pl K H v)∧xs.length≤1000∧∀H',Same H H'→Q (.bl (tabB xs)) H'
theorem scIsT:FnScope ["thing"] ["thing"] (defScope sIsT):=⟨rfl,rfl,rfl,by decide +kernel,rfl,by decide +kernel,by decide +kernel⟩
theorem lens_in (n:Nat):(!inV (.int (n:Int)) (cutV (lensL.map V.int) (some 1) none)) = !([2,4,8,16,32,64].contains n):=by
  have e:cutV (lensL.map V.int) (some 1) none=[V.int 2,.int 4,.int 8,.int 16,.int 32,.int 64]:=by decide
  rw[e]
  have q:∀k:Nat,eqV (.int (k:Int)) (.int (n:Int))=(n == k):=fun k=>by
    show((k:Int) == (n:Int))=(n == k)
    rw[Bool.eq_iff_iff,beq_iff_eq,beq_iff_eq]
    omega
  have:=q 2;have:=q 4;have:=q 8;have:=q 16;have:=q 32;have:=q 64
  simp_all [inV]
  rfl
theorem ok_ist {f1:Addr}{fd1:FuncData} (t:Tx K mg "is_table" sIsT ["thing"] f fd) (T:T K mg AL LN RU PL CO fE fH rR rP iR iP wP iC cH cE cT cW iX SE NG NN NO NR NL NS NT NX NV TM UL) (D_is_number:Df P w K mg base CX0 1 "is_number" ["thing"] (spNum K) f1 fd1) :
    Df P w K mg base CX0 2 "is_table" ["thing"] (spIsT K) f fd:=by
  refine t.df0 scIsT (fun vs H Q E h=>?_) (fun cdv A outer s H vs Q E hr h=>?_)
  · obtain⟨p,xs,rfl,_⟩:=h
    rfl
  · obtain⟨p,xs,rfl,hp,pl,hlen,k⟩:=h
    refine⟨_,(pss_cons (ps_if (PW.pt (pw_or (pt_not (pt_val (pe_callB call_isi (by rfl) T.b_isi bt_isi (pa_cons (pv 0) (pa_cons (pe_bltn (v:=.ty "list") (by rfl) T.b_list bt_list rfl) pa_nil))))) (pw_or1 (pt_cmpR op_notIn_seq (pe_callB call_len_seq (by rfl) T.b_len bt_len (pa_cons (pv 0) pa_nil)) (pe_slice sl_tupA (pe_glob (v:=.ref LN) (by rfl) T.mLN rfl) (po_some pe_int) po_none) (by rfl))))) (pss_one (ps_ret pe_bl)) pss_nil)
      (pss_one (ps_ret (pe_and (pe_callB (call_all rfl) (by rfl) T.b_all bt_all (pa_cons (pe_comp (NB:=["number"]) (pick:=[none]) (blk_mk (by with_unfolding_all rfl) (by exact trivial) rfl (by decide +kernel) (by decide +kernel) (by rfl) (by rfl)) rfl
          (pi_list (pv 0)) (fun _ _ _=>pg_name (i:=0) (show(["number"]:List Str).Nodup from by decide +kernel) rfl (Or.inl rfl))
          (fun _ _ _=>pif_nil) (fun _ _ _=>(pe_d0 D_is_number hr (by decide) (by rfl) (pa_cons (pv 0) pa_nil)))) pa_nil)) (pe_one (pe_cmpR op_eq (pe_ix ix_list (pv 0) pe_int (fun _ _=>rfl)) pe_int (nomark _))))))),?_⟩
    refine⟨_,rfl,.ref p,.ty "list",_,_,_,rfl,rfl,.of (.lst hp),Kd.lst.list_ K,_,rfl,iteF ?_⟩
    refine⟨_,rfl,p,_,rfl,.inl (SqL.of hp),_,rfl,LN,_,rfl,T.ln _,fun q H1 s1 hq=>⟨q,_,rfl,.inr hq,rfl,by decide,_,rfl,?_⟩⟩
    show if (!inV (.int (xs.length:Int)) (cutV (lensL.map V.int) (some 1) none))=true then _ else _
    rw[lens_in]
    cases ec:[2,4,8,16,32,64].contains xs.length with
    | false =>
      have e:false=tabB xs:=by unfold tabB;rw[ec];rfl
      refine iteT ?_
      have z:=k H1 s1
      rw[← e] at z
      exact z
    | true =>
      refine iteF ⟨_,rfl,p,rfl,⟨xs,SqL.of (s1 _ _ hp)⟩,?_⟩
      refine comp_lst (xs:=xs) (fun _ x=>some (.bl (isI x))) (SqL.of (s1 _ _ hp)) (Nat.le_of_lt (small1000 hlen)) (fun i x H2 kk kk0 s2 hx h1 h2=>?_) fun D H2 hD s2 hd=>?_
      · exact⟨_,rfl,x,rfl,(pl x (List.mem_of_getElem? hx)).same (s1.trans s2),h1 _ rfl _ (.refl _)⟩
      · have ed:((List.range xs.length).filterMap fun i=>(xs[i]?).bind fun x=>some (V.bl (isI x)))=(xs.map isI).map V.bl:=by
          rw[List.map_map,← fm_mapV]
          rfl
        rw[ed] at hd
        refine⟨D,_,rfl,SqL.of hd,_,rfl,?_⟩
        have ea:(xs.map isI).all id=xs.all isI:=by rw[List.all_map];rfl
        rw[ea]
        cases eb:xs.all isI with
        | false =>
          have e:false=tabB xs:=by unfold tabB;rw[ec,eb];rfl
          refine iteF ?_
          have z:=k H2 (s1.trans s2)
          rw[← e] at z
          exact z
        | true =>
          have hpos:0<xs.length:=by
            cases xs with
            | nil=>exact absurd ec (by decide)
            | cons _ _=>exact Nat.succ_pos _
          obtain⟨i,hi⟩:∃i,xs[0]?=some (.int i):=by
            have hm:=List.all_eq_true.mp eb xs[0] (List.getElem_mem hpos)
            cases e0:xs[0] with
            | int i=>exact⟨i,by rw[List.getElem?_eq_getElem hpos,e0]⟩
            | _=>rw[e0] at hm;exact(Bool.false_ne_true hm).elim
          refine iteT ⟨_,rfl,p,_,_,_,rfl,rfl,SqL.of (s2 _ _ (s1 _ _ hp)),atI_nat hi,rfl,?_⟩
          have e:decide (V.int i=V.int 0)=tabB xs:=by unfold tabB;rw[ec,eb,hi];simp
          show Q (.bl (decide (V.int i=V.int 0))) H2
          rw[e]
          exact k H2 (s1.trans s2)
def spHin (K:PySem.W.Frag) (NT:Addr):Sp:=fun vs H Q E=>∃(p:Addr) (xs:List V),vs=[.ref p]∧H p=some (.lst xs)∧(∀v∈xs,Pl K H v)∧xs.length≤1000∧(tabB xs=false→∀H',Same H H'→E (.ref NT) none H') ∧
  ∀m:Nat,1≤m→m≤6→xs.length=2^m→tabB xs=true→∀H',Same H H'→Q (.int (m:Int)) H'
theorem scHin:FnScope ["table"] ["table"] (defScope sHin):=⟨rfl,rfl,rfl,by decide +kernel,rfl,by decide +kernel,by decide +kernel⟩
theorem tab_len {xs:List V} (h:tabB xs=true):∃m:Nat,1≤m∧m≤6∧xs.length=2^m:=by
  have z:[2,4,8,16,32,64].contains xs.length=true:=by
    unfold tabB at h
    rw[Bool.and_eq_true,Bool.and_eq_true] at h
    exact h.1.1
  have z:xs.length∈[2,4,8,16,32,64]:=by simpa using z
  simp only[List.mem_cons,List.not_mem_nil,or_false] at z
  rcases z with z | z | z | z | z | z
  · exact⟨1,by decide,by decide,z⟩
  · exact⟨2,by decide,by decide,z⟩
  · exact⟨3,by decide,by decide,z⟩
  · exact⟨4,by decide,by decide,z⟩
  · exact⟨5,by decide,by decide,z⟩
  · exact⟨6,by decide,by decide,z⟩
theorem lens_at:∀m:_root_.Fin 7,lensL[m.1]?=some ((2:Int)^m.1)∧∀j:_root_.Fin 7,j.1<m.1→lensL[j.1]?≠some ((2:Int)^m.1):=by decide
theorem ok_hin {f1:Addr}{fd1:FuncData} (t:Tx K mg "hands_in" sHin ["table"] f fd) (T:T K mg AL LN RU PL CO fE fH rR rP iR iP wP iC cH cE cT cW iX SE NG NN NO NR NL NS NT NX NV TM UL) (D_is_table:Df P w K mg base CX0 2 "is_table" ["thing"] (spIsT K) f1 fd1) :
    Df P w K mg base (CX1 P w) 3 "hands_in" ["table"] (spHin K NT) f fd:=by
  refine t.df1 scHin (fun vs H Q E h=>?_) (fun cdv A outer s H vs Q E hr h=>?_)
  · obtain⟨p,xs,rfl,_⟩:=h
    rfl
  · obtain⟨p,xs,rfl,hp,pl,hlen,k0,k⟩:=h
    refine⟨_,(pss_cons (ps_if (pt_not (pt_val (pe_d0 D_is_table hr (by decide) (by rfl) (pa_cons (pv 0) pa_nil)))) (pss_one (ps_raise rais_def rfl (by rfl) T.mNT T.xNT (pa_cons pe_str pa_nil))) pss_nil)
      (pss_one (ps_ret (pe_bm PySem.F.plainAttrs_tuple PySem.F.slot_tuple_index PySem.F.type_tuple_index mt_index (pe_glob (v:=.ref LN) (by rfl) T.mLN rfl) (pa_cons (pe_callB call_len_seq (by rfl) T.b_len bt_len (pa_cons (pv 0) pa_nil)) pa_nil))))),?_⟩
    refine⟨_,rfl,p,xs,rfl,hp,pl,hlen,fun H1 s1=>⟨_,rfl,?_⟩⟩
    cases e:tabB xs with
    | false=>exact iteT ⟨by show 1≤sizeLine;decide,k0 e H1 s1⟩
    | true =>
      obtain⟨m,h1,h6,hm⟩:=tab_len e
      obtain⟨l1,l2⟩:=lens_at ⟨m,by omega⟩
      refine iteF ⟨.inr (.inl ⟨rfl,T.tyL⟩),_,rfl,p,_,rfl,.inl (SqL.of (s1 _ _ hp)),LN,lensL,_,m,rfl,rfl,T.ln _,?_,?_,k m h1 h6 hm e H1 s1⟩
      · rw[hm,l1]
        push_cast
        rfl
      · intro j hj
        have z:=l2 ⟨j,by omega⟩ hj
        rw[hm]
        intro q
        refine z (q.trans ?_)
        push_cast
        rfl
def TabN (m:Nat) (rs:List Int):Prop:=1≤m∧m≤6∧rs.length=2^m∧rs[0]?=some 0
theorem TabN.pos {m:Nat}{rs:List Int} (t:TabN m rs):2≤rs.length∧rs.length≤64:=by
  obtain⟨m1,m6,h,_⟩:=t
  have h64:2^m≤64:=Nat.pow_le_pow_right (n:=2) (by decide) m6
  have h2m:2≤2^m:=Nat.pow_le_pow_right (n:=2) (i:=1) (by decide) m1
  omega
theorem at_of {rs:List Int}{j:Nat} (hj:j<rs.length):atI (rs.map V.int) (j:Int)=some (.int (rs.getD j 0)):=atI_nat (by rw[List.getElem?_map,List.getD_eq_getElem?_getD,List.getElem?_eq_getElem hj];rfl)
theorem bor_all:∀a b:_root_.Fin 64,Builtin.bitOr ((a.1:Nat):Int) ((b.1:Nat):Int)=((a.1 ||| b.1:Nat):Int):=by decide +kernel
theorem bor {a b:Nat} (ha:a<64) (hb:b<64):Builtin.bitOr (a:Int) (b:Int)=((a ||| b:Nat):Int):=bor_all ⟨a,ha⟩ ⟨b,hb⟩
theorem tabB_of {m:Nat}{rs:List Int} (t:TabN m rs):tabB (rs.map V.int)=true:=by
  obtain⟨m1,m6,h,h0⟩:=t
  have hc:[2,4,8,16,32,64].contains (2^m)=true:=by
    have all:∀k:_root_.Fin 7,1≤k.1→[2,4,8,16,32,64].contains (2^k.1)=true:=by decide
    exact all ⟨m,by omega⟩ m1
  unfold tabB
  rw[List.length_map,h,hc,all_ints,List.getElem?_map,h0]
  rfl
theorem pow_nat (m:Nat):∃n:Nat,2^m=n+1∧((2:Int)^m-1=(n:Int)):=by
  have h:0<2^m:=Nat.pow_pos (by decide)
  have e:((2^m:Nat):Int)=(2:Int)^m:=by push_cast;rfl
  exact⟨2^m-1,by omega,by omega⟩
theorem comp_itrS {n:Nat}{σ0:St}{H1:Hp}{i0:Nat}{c:TT}{te:TE}{Q:Addr→Hp→Prop} (f:Nat→Option V) (hn:n≤sizeLine)
    (step:∀(i:Nat) (H2:Hp) (k:VK) (k0:Hp→Prop),Same H1 H2→i<n→(∀y,f i=some y→k y H2)→(f i=none→k0 H2) →
      c (σ0.set i0 (some (.int (0+(i:Int))))) H2 fun b H4=>if b=true then te (σ0.set i0 (some (.int (0+(i:Int))))) H4 k else k0 H4)
    (h:∀D,H1 D=none→Q D (upd H1 D (.lst ((List.range n).filterMap f)))) :
    ∀D,H1 D=none→∃W:Nat→Nat→St→Hp→Prop,(∃m,W 0 m σ0 (upd H1 D (.lst [])))∧∀i m σ1 H2,W i m σ1 H2 →
      ((Itr 0 n).stop i H2∧Q D H2)∨((Itr 0 n).go i H2∧∃N:St→Hp→Prop,(∀σ' H',N σ' H'→∃m',m'<m∧W (i+1) m' σ' H') ∧
        ∀x H',(Itr 0 n).yld i H2 x H'→gName i0 x σ1 H' fun σ2 H3=>c σ2 H3 fun b H4=>if b=true then te σ2 H4 fun y H5=>∃xs,H5 D=some (.lst xs)∧xs.length<sizeLine∧N σ2 (upd H5 D (.lst (xs++[y]))) else N σ2 H4):=by
  intro D hD
  refine⟨fun i m σ1 H2=>σ1.set i0 none=σ0.set i0 none∧H2=upd H1 D (.lst ((List.range i).filterMap f))∧i≤n∧m=n-i,⟨n,rfl,rfl,Nat.zero_le _,rfl⟩,?_⟩
  rintro i m σ1 H2 ⟨hσ,rfl,hi,rfl⟩
  have hset:∀v:Option V,σ1.set i0 v=σ0.set i0 v:=fun v=>by
    have z:=congrArg (fun l=>List.set l i0 v) hσ
    simpa using z
  rcases Nat.lt_or_ge i n with hlt | hge
  · right
    refine⟨hlt,fun σ' H'=>σ'.set i0 none=σ0.set i0 none∧H'=upd H1 D (.lst ((List.range (i+1)).filterMap f)),fun σ' H' ⟨a,b⟩=>⟨n-(i+1),by omega,a,b,hlt,rfl⟩,?_⟩
    rintro x H' ⟨rfl,rfl⟩
    show c (σ1.set i0 (some (.int (0+(i:Int))))) _ _
    rw[hset]
    refine step i _ _ _ (.upd_new hD) hlt (fun y hy=>⟨_,upd_same,?_,?_,?_⟩) fun hno=>⟨?_,?_⟩
    · refine Nat.lt_of_le_of_lt (List.length_filterMap_le _ _) ?_
      rw[List.length_range]
      omega
    · simp
    · rw[upd_upd,List.range_succ,List.filterMap_append]
      simp[hy]
    · simp
    · rw[List.range_succ,List.filterMap_append]
      simp[hno]
  · left
    obtain rfl:i=n:=Nat.le_antisymm hi hge
    exact⟨Nat.le_refl _,h D hD⟩
def spRI (K:PySem.W.Frag) (NL:Addr):Sp:=fun vs H Q E=>∃(x C dx:Addr) (v:V),vs=[.ref x,v]∧H x=some (.ins C dx [])∧Cls K C∧NoAttr K C "many"∧Pl K H v∧(inB 1 6 v=false→E (.ref NL) none H)∧(inB 1 6 v=true→Q .non (upd H x (.ins C dx [("many",v)])))
theorem scRI:FnScope ["self","many"] ["self","many"] (defScope sRI):=⟨rfl,rfl,rfl,by decide +kernel,rfl,by decide +kernel,by decide +kernel⟩
theorem ok_ri {f1:Addr}{fd1:FuncData} (t:Mx K "__init__" "Rule.__init__" sRI ["self","many"] f fd) (T:T K mg AL LN RU PL CO fE fH rR rP iR iP wP iC cH cE cT cW iX SE NG NN NO NR NL NS NT NX NV TM UL) (D_check_many:Df P w K mg base (CX1 P w) 3 "check_many" ["many"] (spChM K NL) f1 fd1) :
    Md P w K mg base 4 ["self","many"] (spRI K NL) f:=by
  refine t.md1 scRI (fun vs H Q E h=>?_) (fun cdv A outer s H vs Q E hr h=>?_)
  · obtain⟨x,C,dx,v,rfl,_⟩:=h
    rfl
  · obtain⟨x,C,dx,v,rfl,hx,c,n,pl,k0,k⟩:=h
    refine⟨_,(pss_cons (ps_expr (pe_d1 rais_def.toPass D_check_many hr (by decide) (by rfl) (pa_cons (pv 1) pa_nil)))
      (pss_one (ps_fld (pv 0) (pv 1) rfl))),?_⟩
    refine⟨_,rfl,v,rfl,pl,?_⟩
    cases e:inB 1 6 v with
    | false=>rw[if_neg Bool.false_ne_true];exact k0 e
    | true =>
      rw[if_pos rfl]
      exact⟨_,rfl,_,rfl,x,C,dx,[],rfl,hx,c,n,by decide,k e⟩
def spHs (K:PySem.W.Frag):Sp:=fun vs H Q _=>∃(a C dx:Addr) (fs:List (Str×V)) (v:V),vs=[.ref a]∧H a=some (.ins C dx fs)∧Cls K C∧NoAttr K C "many"∧fs.lookup ("many":Str)=some v∧Q v H
theorem scHs:FnScope ["self"] ["self"] (defScope sHs):=⟨rfl,rfl,rfl,by decide +kernel,rfl,by decide +kernel,by decide +kernel⟩
theorem ok_hs (t:Mx K "hands" "Rule.hands" sHs ["self"] f fd):Md P w K mg base 1 ["self"] (spHs K) f:=by
  refine t.md0 scHs (fun vs H Q E h=>?_) (fun cdv A outer s H vs Q E hr h=>?_)
  · obtain⟨a,C,dx,fs,v,rfl,_⟩:=h
    rfl
  · obtain⟨a,C,dx,fs,v,rfl,ha,c,n,hl,k⟩:=h
    refine⟨_,(pss_one (ps_ret (pe_fld (pv 0) rfl))),?_⟩
    exact⟨_,rfl,a,C,dx,fs,v,rfl,ha,c,n,hl,k⟩
def spRR:Sp:=fun vs H Q _=>∃u v,vs=[u,v]∧Q (.int 0) H
def spErn (P:Program) (w:World) (K:PySem.W.Frag) (mg:Str→Option Value) (base:Heap) (fE fH RU NG:Addr):Sp:=fun vs H Q E=>∃(a:Addr) (m:Nat) (e:Nat→Int) (v:V),vs=[.ref a,v]∧RObj P w K mg base fE fH RU H a m e∧Pl K H v ∧
  (inB 0 (2^m-1) v=false→∀H',Same H H'→E (.ref NG) none H')∧∀(g:Nat),v = .int (g:Int)→g<2^m→∀H',Same H H'→Q (.int (e g)) H'
theorem scErn:FnScope ["self","group"] ["self","group"] (defScope sErn):=⟨rfl,rfl,rfl,by decide +kernel,rfl,by decide +kernel,by decide +kernel⟩
theorem ok_ern {f1:Addr}{fd1:FuncData} (t:Mx K "earn" "Rule.earn" sErn ["self","group"] f fd) (T:T K mg AL LN RU PL CO fE fH rR rP iR iP wP iC cH cE cT cW iX SE NG NN NO NR NL NS NT NX NV TM UL) (D_check_group:Df P w K mg base (CX1 P w) 3 "check_group" ["group","many"] (spChk K NG) f1 fd1) :
    Md P w K mg base 7 ["self","group"] (spErn P w K mg base fE fH RU NG) f:=by
  refine t.md1 scErn (fun vs H Q E h=>?_) (fun cdv A outer s H vs Q E hr h=>?_)
  · obtain⟨a,m,e,v,rfl,_⟩:=h
    rfl
  · obtain⟨a,m,e,v,rfl,ro,pl,k0,k⟩:=h
    refine⟨_,(pss_cons (ps_expr (pe_d1 rais_def.toPass D_check_group hr (by decide) (by rfl) (pa_cons (pv 1) (pa_cons (pe_fld (pv 0) rfl) pa_nil))))
      (pss_one (ps_ret (pe_methX (k:=6) rais_def.toPass (pv 0) hr (by decide) (pa_cons (pv 1) pa_nil))))),?_⟩
    obtain⟨C,dx,g,fs,h1,h2,h3,h4,h5,h6,ps,h7⟩:=ro
    refine⟨_,rfl,_,rfl,a,C,dx,fs,_,rfl,h1,h2.oc.cl,h2.nm,h3,v,m,rfl,h5,pl,k0,fun yes H1 s1=>?_⟩
    obtain⟨gr,rfl,hg⟩:=inB_natM yes
    refine⟨_,rfl,a,C,dx,fs,g,_,rfl,s1 _ _ h1,h6.2.2,h2.oc.cl,h2.mr,⟨ps,h7⟩,?_⟩
    exact⟨_,rfl,gr,rfl,hg,s1,fun H3 s3=>k gr rfl hg H3 (s1.trans s3)⟩
def spPI (K:PySem.W.Frag) (NT PL:Addr):Sp:=fun vs H Q E=>∃(x dx p:Addr) (xs:List V),vs=[.ref x,.ref p]∧H x=some (.ins PL dx [])∧H p=some (.lst xs)∧(∀v∈xs,Pl K H v)∧xs.length≤1000 ∧
  (tabB xs=false→∀H',SameBut x H H'→E (.ref NT) none H') ∧
  (tabB xs=true→∀(m:Nat) l H',1≤m→m≤6→xs.length=2^m→H l=none→SameBut x H H'→H' x=some (.ins PL dx [("many",.int (m:Int)),("earnings",.ref l)])→H' l=some (.lst xs)→Q .non H')
theorem scPI:FnScope ["self","table"] ["self","table"] (defScope sPI):=⟨rfl,rfl,rfl,by decide +kernel,rfl,by decide +kernel,by decide +kernel⟩
theorem ok_pi {f1:Addr}{fd1:FuncData} (t:Mx K "__init__" "Plain.__init__" sPI ["self","table"] f fd) (T:T K mg AL LN RU PL CO fE fH rR rP iR iP wP iC cH cE cT cW iX SE NG NN NO NR NL NS NT NX NV TM UL) (D_RI:Md P w K mg base 4 ["self","many"] (spRI K NL) iR) (D_hands_in:Df P w K mg base (CX1 P w) 3 "hands_in" ["table"] (spHin K NT) f1 fd1) :
    Md P w K mg base 5 ["self","table"] (spPI K NT PL) f:=by
  refine t.md1 scPI (fun vs H Q E h=>?_) (fun cdv A outer s H vs Q E hr h=>?_)
  · obtain⟨x,dx,p,xs,rfl,_⟩:=h
    rfl
  · obtain⟨x,dx,p,xs,rfl,hx,hp,pl,hlen,k0,k⟩:=h
    refine⟨_,(pss_cons (ps_expr (pe_cm rais_def.toPass (by rfl) T.mRU T.cRI D_RI hr (by decide) (pa_cons (pv 0) (pa_cons (pe_d1 rais_def.toPass D_hands_in hr (by decide) (by rfl) (pa_cons (pv 1) pa_nil)) pa_nil))))
      (pss_one (ps_fld (pv 0) (pe_callTy call_list_of (by rfl) T.b_list bt_list (pa_cons (pv 1) pa_nil)) rfl))),?_⟩
    refine⟨_,rfl,_,rfl,p,xs,rfl,hp,pl,hlen,fun no H1 s1=>k0 no H1 (s1.but x),fun m h1 h6 hm yes H1 s1=>?_⟩
    have i16:inB 1 6 (.int (m:Int))=true:=by rw[inB_16,decide_eq_true h1,decide_eq_true h6];rfl
    refine⟨x,PL,dx,_,rfl,s1 _ _ hx,T.rPL.oc.cl,T.rPL.nm,.int _,fun no=>?_,fun _=>?_⟩
    · rw[i16] at no
      cases no
    have ne:p≠x:=ne_of hp hx (by intro z;cases z)
    have hp1:upd H1 x (.ins PL dx [("many",V.int (m:Int))]) p=some (.lst xs):=by rw[upd_ne ne];exact s1 _ _ hp
    refine⟨_,rfl,p,_,rfl,.inl (SqL.of hp1),fun l hl=>?_⟩
    have u2:=Same.upd_new (o:=.lst xs) hl
    have hx2:=u2 _ _ (upd_same (H:=H1) (a:=x) (o:=.ins PL dx [("many",V.int (m:Int))]))
    refine⟨_,rfl,x,PL,dx,_,rfl,hx2,T.rPL.oc.cl,T.nPL,(by show 1<1000;decide),?_⟩
    have nl:l≠x:=(ne_of_none (upd_same (H:=H1) (a:=x) (o:=.ins PL dx [("many",V.int (m:Int))])) hl).symm
    refine k yes m l _ h1 h6 hm ?_ ((((s1.but x).updx _).then u2).updx _) upd_same (by rw[upd_ne nl];exact upd_same)
    rw[upd_ne nl] at hl
    exact s1.free hl
def spPR (PL:Addr):Sp:=fun vs H Q _=>∃(a dx l:Addr) (m:Nat) (ns:List Int) (g:Nat),vs=[.ref a,.int (g:Int)]∧H a=some (.ins PL dx [("many",.int (m:Int)),("earnings",.ref l)])∧H l=some (.lst (ns.map V.int))∧g<ns.length∧∀H',Same H H'→Q (.int (ns.getD g 0)) H'
theorem scPR:FnScope ["self","group"] ["self","group"] (defScope sPR):=⟨rfl,rfl,rfl,by decide +kernel,rfl,by decide +kernel,by decide +kernel⟩
theorem ok_pr (t:Mx K "reckon" "Plain.reckon" sPR ["self","group"] f fd) (T:T K mg AL LN RU PL CO fE fH rR rP iR iP wP iC cH cE cT cW iX SE NG NN NO NR NL NS NT NX NV TM UL):Md P w K mg base 1 ["self","group"] (spPR PL) f:=by
  refine t.md0 scPR (fun vs H Q E h=>?_) (fun cdv A outer s H vs Q E hr h=>?_)
  · obtain⟨a,dx,l,m,ns,g,rfl,_⟩:=h
    rfl
  · obtain⟨a,dx,l,m,ns,g,rfl,ha,hl,hg,k⟩:=h
    refine⟨_,(pss_one (ps_ret (pe_ix ix_list (pe_fld (pv 0) rfl) (pv 1) (fun _ _=>rfl)))),?_⟩
    have hat:atI (ns.map V.int) (g:Int)=some (.int (ns.getD g 0)):=atI_nat (by rw[List.getElem?_map,List.getD_eq_getElem?_getD,List.getElem?_eq_getElem hg];rfl)
    exact⟨_,rfl,a,PL,dx,_,_,rfl,ha,T.rPL.oc.cl,T.nPL,rfl,_,rfl,l,_,_,_,rfl,rfl,SqL.of hl,hat,k H (.refl H)⟩
theorem plain_obj (D:Md P w K mg base 1 ["self","group"] (spPR PL) rP) (c:RC K fE fH RU PL rP){H:Hp}{a dx l:Addr}{m:Nat}{ns:List Int} (ha:H a=some (.ins PL dx [("many",.int (m:Int)),("earnings",.ref l)])) (hl:H l=some (.lst (ns.map V.int))) (hn:ns.length=2^m) (h1:1≤m) (h6:m≤6) :
    RObj P w K mg base fE fH RU H a m (fun g=>ns.getD g 0) :=
  ⟨PL,dx,rP,_,ha,c,rfl,h1,h6,⟨rfl,rfl,rfl⟩,_,(D.up (by decide)).imp fun vs H2 Q _ ⟨gr,e,hg,s,q⟩=>⟨a,dx,l,m,ns,gr,e,s _ _ ha,s _ _ hl,by omega,q⟩⟩
theorem pow_inj {a b:Nat} (h:2^a=2^b):a=b:=by
  rcases Nat.lt_trichotomy a b with z | z | z
  · exact absurd h (Nat.ne_of_lt (Nat.pow_lt_pow_right (by decide) z))
  · exact z
  · exact absurd h.symm (Nat.ne_of_lt (Nat.pow_lt_pow_right (by decide) z))
def spCsg (K:PySem.W.Frag) (NG:Addr):Sp:=fun vs H Q E=>∃(l:Addr) (m:Nat) (rs:List Int) (v:V),vs=[.ref l,v]∧H l=some (.lst (rs.map V.int))∧TabN m rs∧Pl K H v∧(inB 1 (2^m-1) v=false→∀H',Same H H'→E (.ref NG) none H')∧(inB 1 (2^m-1) v=true→∀H',Same H H'→Q .non H')
theorem scCsg:FnScope ["table","group"] ["table","group"] (defScope sCsg):=⟨rfl,rfl,rfl,by decide +kernel,rfl,by decide +kernel,by decide +kernel⟩
theorem ok_csg {f1 f2 f3:Addr}{fd1 fd2 fd3:FuncData} (t:Tx K mg "check_some_group" sCsg ["table","group"] f fd) (T:T K mg AL LN RU PL CO fE fH rR rP iR iP wP iC cH cE cT cW iX SE NG NN NO NR NL NS NT NX NV TM UL) (D_is_number_within:Df P w K mg base CX0 2 "is_number_within" ["thing","least","most"] (spWith K) f1 fd1)
    (D_hands_in:Df P w K mg base (CX1 P w) 3 "hands_in" ["table"] (spHin K NT) f2 fd2) (D_whole_company:Df P w K mg base CX0 1 "whole_company" ["many"] spWC f3 fd3):Df P w K mg base (CX1 P w) 4 "check_some_group" ["table","group"] (spCsg K NG) f fd:=by
  refine t.df1 scCsg (fun vs H Q E h=>?_) (fun cdv A outer s H vs Q E hr h=>?_)
  · obtain⟨l,m,rs,v,rfl,_⟩:=h
    rfl
  · obtain⟨l,m,rs,v,rfl,hl,tb,pl,k0,k⟩:=h
    have hp:=tb.pos
    refine⟨_,(pss_one (ps_if (pt_not (pt_val (pe_d0 D_is_number_within hr (by decide) (by rfl) (pa_cons (pv 1) (pa_cons pe_int (pa_cons (pe_d0 D_whole_company hr (by decide) (by rfl) (pa_cons (pe_d1 rais_def.toPass D_hands_in hr (by decide) (by rfl) (pa_cons (pv 0) pa_nil)) pa_nil)) pa_nil)))))) (pss_one (ps_raise rais_def rfl (by rfl) T.mNG T.xNG (pa_cons pe_str pa_nil))) pss_nil)),?_⟩
    refine⟨_,rfl,_,rfl,l,_,rfl,hl,pl_ints,by rw[List.length_map];omega,(fun e=>by rw[tabB_of tb] at e;cases e),fun m' m1 m6 hm _ H1 s1=>?_⟩
    rw[List.length_map,tb.2.2.1] at hm
    obtain rfl:=pow_inj hm
    refine⟨m,rfl,m6,fun H2 s2=>⟨v,1,_,rfl,pl.same (s1.trans s2),_,rfl,?_⟩⟩
    cases e:inB 1 (2^m-1) v with
    | true=>exact iteF (k e _ (s1.trans s2))
    | false=>exact iteT ⟨by show 1≤sizeLine;decide,k0 e _ (s1.trans s2)⟩
theorem inB_some {v:V}{m:Nat} (h1:inB 1 (2^m-1) v=true):∃g:Nat,v = .int (g:Int)∧1≤g∧g<2^m:=by
  cases v with
  | int i =>
    have z:(decide (1≤i)&&decide (i≤2^m-1))=true:=h1
    rw[Bool.and_eq_true] at z
    have z1:=of_decide_eq_true z.1
    have z2:=of_decide_eq_true z.2
    have e:((2^m:Nat):Int)=2^m:=by push_cast;rfl
    exact⟨i.toNat,by rw[Int.toNat_of_nonneg (by omega)],by omega,by omega⟩
  | _=>exact(Bool.false_ne_true h1).elim
theorem some_inB {g m:Nat} (h1:1≤g) (hg:g<2^m):inB 1 (2^m-1) (.int (g:Int))=true:=by
  show(decide (1≤(g:Int))&&decide ((g:Int)≤2^m-1))=true
  have e:((2^m:Nat):Int)=2^m:=by push_cast;rfl
  rw[decide_eq_true (by omega),decide_eq_true (by omega)]
  rfl
def sumL (r1 r2:List Int):List Int:=(List.range r1.length).map fun g=>r1.getD g 0+r2.getD g 0
def addV:V→V→Option V
  | .int a,.int b=>some (.int (a+b))
  | _,_=>none
theorem zip_sum {r1 r2:List Int} (hll:r1.length=r2.length):((List.range (r1.map V.int).length).filterMap fun i=>((r1.map V.int)[i]?).bind fun x=>((r2.map V.int)[i]?).bind (addV x))=(sumL r1 r2).map V.int:=by
  unfold sumL
  rw[List.length_map,List.map_map]
  refine Eq.trans (fm_congr (g:=fun g=>some (V.int (r1.getD g 0+r2.getD g 0))) fun i hi=>?_) (by rw[List.filterMap_eq_map'];rfl)
  have hi:=List.mem_range.mp hi
  rw[List.getElem?_map,List.getElem?_map,List.getElem?_eq_getElem hi,List.getElem?_eq_getElem (by omega)]
  show some (V.int (r1[i]+r2[i]))=some (V.int (r1.getD i 0+r2.getD i 0))
  rw[List.getD_eq_getElem?_getD,List.getD_eq_getElem?_getD,List.getElem?_eq_getElem hi,List.getElem?_eq_getElem (by omega)]
  rfl
def spSmd (K:PySem.W.Frag) (UL:Addr):Sp:=fun vs H Q E=>∃(l1 l2:Addr) (m1 m2:Nat) (r1 r2:List Int),vs=[.ref l1,.ref l2]∧H l1=some (.lst (r1.map V.int))∧H l2=some (.lst (r2.map V.int))∧TabN m1 r1∧TabN m2 r2∧(m1≠m2→∀H',Same H H'→E (.ref UL) none H') ∧
  ∀(q:Addr) H',m1=m2→H q=none→Same H H'→H' q=some (.lst ((sumL r1 r2).map V.int))→Q (.ref q) H'
theorem scSmd:FnScope ["one","other"] ["one","other"] (defScope sSmd):=⟨rfl,rfl,rfl,by decide +kernel,rfl,by decide +kernel,by decide +kernel⟩
theorem ok_smd {f1:Addr}{fd1:FuncData} (t:Tx K mg "summed" sSmd ["one","other"] f fd) (T:T K mg AL LN RU PL CO fE fH rR rP iR iP wP iC cH cE cT cW iX SE NG NN NO NR NL NS NT NX NV TM UL) (D_hands_in:Df P w K mg base (CX1 P w) 3 "hands_in" ["table"] (spHin K NT) f1 fd1) :
    Df P w K mg base (CX1 P w) 4 "summed" ["one","other"] (spSmd K UL) f fd:=by
  refine t.df1 scSmd (fun vs H Q E h=>?_) (fun cdv A outer s H vs Q E hr h=>?_)
  · obtain⟨l1,l2,m1,m2,r1,r2,rfl,_⟩:=h
    rfl
  · obtain⟨l1,l2,m1,m2,r1,r2,rfl,h1,h2,t1,t2,k0,k⟩:=h
    have hp1:=t1.pos
    have hp2:=t2.pos
    refine⟨_,(pss_cons (ps_if (pt_cmpR op_ne (pe_d1 rais_def.toPass D_hands_in hr (by decide) (by rfl) (pa_cons (pv 0) pa_nil)) (pe_d1 rais_def.toPass D_hands_in hr (by decide) (by rfl) (pa_cons (pv 1) pa_nil)) (nomark _)) (pss_one (ps_raise rais_def rfl (by rfl) T.mUL T.xUL (pa_cons pe_str pa_nil))) pss_nil)
      (pss_one (ps_ret (pe_comp (NB:=["first","second"]) (pick:=[none,none]) (blk_mk (by with_unfolding_all rfl) (by exact trivial) rfl (by decide +kernel) (by decide +kernel) (by rfl) (by rfl)) rfl
          (pi_zip (by rfl) T.b_zip (pa_cons (pv 0) (pa_cons (pv 1) pa_nil))) (fun _ _ _=>(show PG _ _ (gTup K 2 (gCons (gName 0) (gCons (gName 1) gNil))) from pg_tup rfl (pgs_cons (pg_name (i:=0) (show(["first","second"]:List Str).Nodup from by decide +kernel) rfl (Or.inl rfl)) (pgs_cons (pg_name (i:=1) (show(["first","second"]:List Str).Nodup from by decide +kernel) rfl (Or.inl rfl)) pgs_nil))))
          (fun _ _ _=>pif_nil) (fun _ _ _=>(pe_op op_add (pv 0) (pv 1))))))),?_⟩
    refine⟨_,rfl,l1,_,rfl,h1,pl_ints,by rw[List.length_map];omega,(fun e=>by rw[tabB_of t1] at e;cases e),fun a1 _ _ ha1 _ H1 s1=>?_⟩
    rw[List.length_map,t1.2.2.1] at ha1
    obtain rfl:=pow_inj ha1
    refine⟨_,rfl,l2,_,rfl,s1 _ _ h2,pl_ints,by rw[List.length_map];omega,(fun e=>by rw[tabB_of t2] at e;cases e),fun a2 _ _ ha2 _ H2 s2=>?_⟩
    rw[List.length_map,t2.2.2.1] at ha2
    obtain rfl:=pow_inj ha2
    have s12:=s1.trans s2
    refine⟨rfl,_,rfl,ite2 (fun h=>?_) (fun h=>?_)⟩
    · refine⟨by show 1≤sizeLine;decide,k0 (fun e=>?_) _ s12⟩
      have h:(!decide (V.int (m1:Int)=V.int (m2:Int)))=true:=h
      rw[e,decide_eq_true rfl] at h
      cases h
    have em:m1=m2:=by
      have h:¬(!decide (V.int (m1:Int)=V.int (m2:Int)))=true:=h
      refine Classical.byContradiction fun q=>h ?_
      rw[decide_eq_false fun z=>q (by have:=V.int.inj z;omega)]
      rfl
    have hll:r1.length=r2.length:=by rw[t1.2.2.1,t2.2.2.1,em]
    refine⟨_,rfl,_,rfl,l1,l2,rfl,⟨_,SqL.of (s12 _ _ h1)⟩,⟨_,SqL.of (s12 _ _ h2)⟩,?_⟩
    refine comp_zipG (xs:=r1.map V.int) (ys:=r2.map V.int) (fun σ'=>∃o0 o1:Option V,σ'=[o0,o1]) (fun _=>addV) ⟨_,_,rfl⟩ (SqL.of (s12 _ _ h1)) (SqL.of (s12 _ _ h2)) (by rw[List.length_map,List.length_map,hll]) (by rw[List.length_map];exact Nat.le_of_lt (small1000 (by omega))) (fun i x y t σ1 H3 kk kk0 hσ s3 hx hy ht g1 g2=>?_) fun D H3 hD s3 hd=>?_
    · obtain⟨o0,o1,rfl⟩:=hσ
      obtain⟨a,_,rfl⟩:=List.mem_map.mp (List.mem_of_getElem? hx)
      obtain⟨b,_,rfl⟩:=List.mem_map.mp (List.mem_of_getElem? hy)
      refine⟨t,_,rfl,SqT.of ht,rfl,_,_,rfl,_,_,rfl,rfl,?_⟩
      exact⟨_,rfl,_,rfl,_,_,rfl,rfl,g1 _ _ ⟨_,_,rfl⟩ rfl _ (.refl _)⟩
    · rw[zip_sum hll] at hd
      exact k D H3 em (s12.free hD) (s12.trans s3) hd
def bsdL (r1 r2:List Int):List Int:=(List.range (r1.length*r2.length)).map fun g=>r1.getD (g%r1.length) 0+r2.getD (g/r1.length) 0
def spBsd (K:PySem.W.Frag) (TM:Addr):Sp:=fun vs H Q E=>∃(l1 l2:Addr) (m1 m2:Nat) (r1 r2:List Int),vs=[.ref l1,.ref l2]∧H l1=some (.lst (r1.map V.int))∧H l2=some (.lst (r2.map V.int))∧TabN m1 r1∧TabN m2 r2∧(6<m1+m2→∀H',Same H H'→E (.ref TM) none H') ∧
  ∀(q:Addr) H',m1+m2≤6→H q=none→Same H H'→H' q=some (.lst ((bsdL r1 r2).map V.int))→Q (.ref q) H'
theorem scBsd:FnScope ["one","other","long"] ["one","other"] (defScope sBsd):=⟨rfl,rfl,rfl,by decide +kernel,rfl,by decide +kernel,by decide +kernel⟩
theorem ok_bsd {f1:Addr}{fd1:FuncData} (t:Tx K mg "beside" sBsd ["one","other"] f fd) (T:T K mg AL LN RU PL CO fE fH rR rP iR iP wP iC cH cE cT cW iX SE NG NN NO NR NL NS NT NX NV TM UL) (D_hands_in:Df P w K mg base (CX1 P w) 3 "hands_in" ["table"] (spHin K NT) f1 fd1) :
    Df P w K mg base (CX1 P w) 4 "beside" ["one","other"] (spBsd K TM) f fd:=by
  refine t.df1 scBsd (fun vs H Q E h=>?_) (fun cdv A outer s H vs Q E hr h=>?_)
  · obtain⟨l1,l2,m1,m2,r1,r2,rfl,_⟩:=h
    rfl
  · obtain⟨l1,l2,m1,m2,r1,r2,rfl,h1,h2,t1,t2,k0,k⟩:=h
    have hp1:=t1.pos
    have hp2:=t2.pos
    refine⟨_,(pss_cons (ps_if (pt_cmpR op_gt (pe_op op_add (pe_d1 rais_def.toPass D_hands_in hr (by decide) (by rfl) (pa_cons (pv 0) pa_nil)) (pe_d1 rais_def.toPass D_hands_in hr (by decide) (by rfl) (pa_cons (pv 1) pa_nil))) (pe_callB call_len_seq (by rfl) T.b_len bt_len (pa_cons (pe_glob (v:=.ref AL) (by rfl) T.mAL rfl) pa_nil)) (nomark _)) (pss_one (ps_raise rais_def rfl (by rfl) T.mTM T.xTM (pa_cons pe_str pa_nil))) pss_nil)
      (pss_cons (ps_set (i:=2) scBsd.nd rfl (by first | exact Or.inl rfl | exact Or.inr rfl) (pe_callB call_len_seq (by rfl) T.b_len bt_len (pa_cons (pv 0) pa_nil)))
      (pss_one (ps_ret (pe_comp (NB:=["group","long","one","other"]) (pick:=[none,some 2,some 0,some 1]) (blk_mk (by with_unfolding_all rfl) (by exact(And.intro rfl (And.intro rfl (And.intro rfl trivial)))) rfl (by decide +kernel) (by decide +kernel) (by rfl) (by rfl)) rfl
          (pi_range1 (by rfl) T.b_range (pa_cons (pe_op op_mul (pv 2) (pe_callB call_len_seq (by rfl) T.b_len bt_len (pa_cons (pv 1) pa_nil))) pa_nil)) (fun _ _ _=>pg_name (i:=0) (show(["group","long","one","other"]:List Str).Nodup from by decide +kernel) rfl (Or.inl rfl))
          (fun _ _ _=>pif_nil) (fun _ _ _=>(pe_op op_add (pe_ix (ix_listK K) (pv 2) (pe_op op_mod (pv 0) (pv 1)) (fun _ _=>rfl)) (pe_ix (ix_listK K) (pv 3) (pe_op op_fdiv (pv 0) (pv 1)) (fun _ _=>rfl))))))))),?_⟩
    refine⟨_,rfl,l1,_,rfl,h1,pl_ints,by rw[List.length_map];omega,(fun e=>by rw[tabB_of t1] at e;cases e),fun a1 _ _ ha1 _ H1 s1=>?_⟩
    rw[List.length_map,t1.2.2.1] at ha1
    obtain rfl:=pow_inj ha1
    refine⟨_,rfl,l2,_,rfl,s1 _ _ h2,pl_ints,by rw[List.length_map];omega,(fun e=>by rw[tabB_of t2] at e;cases e),fun a2 _ _ ha2 _ H2 s2=>?_⟩
    rw[List.length_map,t2.2.2.1] at ha2
    obtain rfl:=pow_inj ha2
    have s12:=s1.trans s2
    refine⟨_,_,rfl,rfl,AL,_,rfl,.inr (T.al _),_,_,rfl,rfl,_,rfl,ite2 (fun h=>?_) (fun h=>?_)⟩
    · have z:=of_decide_eq_true h
      have z:((6:Nat):Int)<(m1:Int)+(m2:Int):=z
      exact⟨by show 1≤sizeLine;decide,k0 (by omega) _ s12⟩
    have em:m1+m2≤6:=by
      refine Classical.byContradiction fun q=>h (decide_eq_true ?_)
      show((6:Nat):Int)<(m1:Int)+(m2:Int)
      omega
    refine⟨_,rfl,l1,_,rfl,.inl (SqL.of (s12 _ _ h1)),?_⟩
    have e1:(((r1.map V.int).length:Nat):Int)=(r1.length:Int):=by rw[List.length_map]
    have e2:(((r2.map V.int).length:Nat):Int)=(r2.length:Int):=by rw[List.length_map]
    show gName 2 (V.int ((r1.map V.int).length:Int)) _ _ _
    rw[e1]
    have hmul:r1.length*r2.length≤64:=by
      rw[t1.2.2.1,t2.2.2.1,← Nat.pow_add]
      exact pow6 em
    refine⟨_,rfl,_,rfl,l2,_,rfl,.inl (SqL.of (s12 _ _ h2)),?_⟩
    rw[e2]
    refine⟨_,_,rfl,rfl,.inl ⟨by show -(2^64)<(r1.length:Int);omega,by show(r1.length:Int)<2^64;omega⟩,((r1.length*r2.length:Nat):Int),(by show [V.int ((r1.length:Int)*(r2.length:Int))]=_;push_cast;rfl),by omega,by omega,?_⟩
    refine comp_itrS (n:=r1.length*r2.length) (fun g=>some (.int (r1.getD (g%r1.length) 0+r2.getD (g/r1.length) 0))) (Nat.le_of_lt (small1000 (by omega))) (fun g H3 kk kk0 s3 hg g1 g2=>?_) fun D hD=>?_
    · have b1:g%r1.length<r1.length:=Nat.mod_lt _ (by omega)
      have b2:g/r1.length<r2.length:=Nat.div_lt_of_lt_mul hg
      have a1:atI (r1.map V.int) ((0+(g:Int))%(r1.length:Int))=some (.int (r1.getD (g%r1.length) 0)):=by
        rw[Int.zero_add,show(g:Int)%(r1.length:Int)=((g%r1.length:Nat):Int) by push_cast;rfl]
        exact at_of b1
      have a2:atI (r2.map V.int) ((0+(g:Int))/(r1.length:Int))=some (.int (r2.getD (g/r1.length) 0)):=by
        rw[Int.zero_add,show(g:Int)/(r1.length:Int)=((g/r1.length:Nat):Int) by push_cast;rfl]
        exact at_of b2
      exact⟨_,rfl,_,rfl,_,rfl,_,_,rfl,rfl,(by show(0:Int)<(r1.length:Int);omega),l1,_,_,_,rfl,rfl,SqL.of (s3 _ _ (s12 _ _ h1)),a1,_,rfl,_,rfl,_,rfl,_,_,rfl,rfl,⟨(by show(0:Int)<(r1.length:Int);omega),(by show(r1.length:Int)<1073741824;omega)⟩,l2,_,_,_,rfl,rfl,SqL.of (s3 _ _ (s12 _ _ h2)),a2,_,_,rfl,rfl,g1 _ rfl⟩
    · have e:(List.range (r1.length*r2.length)).filterMap (fun g=>some (V.int (r1.getD (g%r1.length) 0+r2.getD (g/r1.length) 0)))=(bsdL r1 r2).map V.int:=by
        unfold bsdL
        rw[List.map_map,← List.filterMap_eq_map]
        rfl
      show Q _ (upd H2 D (.lst ((List.range (r1.length*r2.length)).filterMap fun g=>some (V.int (r1.getD (g%r1.length) 0+r2.getD (g/r1.length) 0)))))
      rw[e]
      exact k D _ em (s12.free hD) (s12.trans (.upd_new hD)) upd_same
def cutL (rs:List Int) (g:Nat):List Int:=(partsN g).map fun p=>rs.getD p.toNat 0
def spCut (K:PySem.W.Frag) (NG:Addr):Sp:=fun vs H Q E=>∃(l:Addr) (m:Nat) (rs:List Int) (v:V),vs=[.ref l,v]∧H l=some (.lst (rs.map V.int))∧TabN m rs∧Pl K H v∧(inB 1 (2^m-1) v=false→∀H',Same H H'→E (.ref NG) none H') ∧
  ∀(g:Nat) q H',v = .int (g:Int)→1≤g→g<2^m→H q=none→Same H H'→H' q=some (.lst ((cutL rs g).map V.int))→Q (.ref q) H'
theorem scCut:FnScope ["table","group"] ["table","group"] (defScope sCut):=⟨rfl,rfl,rfl,by decide +kernel,rfl,by decide +kernel,by decide +kernel⟩
theorem ok_cut {f1 f2:Addr}{fd1 fd2:FuncData} (t:Tx K mg "cut" sCut ["table","group"] f fd) (T:T K mg AL LN RU PL CO fE fH rR rP iR iP wP iC cH cE cT cW iX SE NG NN NO NR NL NS NT NX NV TM UL) (D_check_some_group:Df P w K mg base (CX1 P w) 4 "check_some_group" ["table","group"] (spCsg K NG) f1 fd1)
    (D_parts_of:Df P w K mg base (CX1 P w) 4 "parts_of" ["group"] (spPts K NG) f2 fd2):Df P w K mg base (CX1 P w) 5 "cut" ["table","group"] (spCut K NG) f fd:=by
  refine t.df1 scCut (fun vs H Q E h=>?_) (fun cdv A outer s H vs Q E hr h=>?_)
  · obtain⟨l,m,rs,v,rfl,_⟩:=h
    rfl
  · obtain⟨l,m,rs,v,rfl,hl,tb,pl,k0,k⟩:=h
    have hp:=tb.pos
    refine⟨_,(pss_cons (ps_expr (pe_d1 rais_def.toPass D_check_some_group hr (by decide) (by rfl) (pa_cons (pv 0) (pa_cons (pv 1) pa_nil))))
      (pss_one (ps_ret (pe_comp (NB:=["part","table"]) (pick:=[none,some 0]) (blk_mk (by with_unfolding_all rfl) (by exact(And.intro rfl trivial)) rfl (by decide +kernel) (by decide +kernel) (by rfl) (by rfl)) rfl
          (pi_list (pe_d1 rais_def.toPass D_parts_of hr (by decide) (by rfl) (pa_cons (pv 1) pa_nil))) (fun _ _ _=>pg_name (i:=0) (show(["part","table"]:List Str).Nodup from by decide +kernel) rfl (Or.inl rfl))
          (fun _ _ _=>pif_nil) (fun _ _ _=>(pe_ix (ix_listK K) (pv 1) (pv 0) (fun _ _=>rfl))))))),?_⟩
    refine⟨_,rfl,_,rfl,l,m,rs,v,rfl,hl,tb,pl,k0,fun hin H1 s1=>?_⟩
    obtain⟨g,rfl,g1,gm⟩:=inB_some hin
    have hg64:g<64:=Nat.lt_of_lt_of_le gm (pow6 tb.2.1)
    have hgl:g<rs.length:=by rw[tb.2.2.1];exact gm
    refine⟨_,rfl,_,rfl,.int _,fun no=>?_,fun g' q H2 hv _ hq s2 h2=>?_⟩
    · exact absurd no (by rw[nat_inB (m:=6) hg64];decide)
    · have eg:g'=g:=by have:=V.int.inj hv;omega
      subst eg
      refine⟨q,rfl,⟨_,SqL.of h2⟩,?_⟩
      refine comp_lst (xs:=(partsN g').map V.int) (fun _ x=>match x with | .int i=>some (.int (rs.getD i.toNat 0)) | _=>none) (SqL.of h2) ?_ (fun i x H3 kk kk0 s3 hx h1 h2=>?_) fun D H3 hD s3 hd=>?_
      · rw[List.length_map]
        exact Nat.le_of_lt (small1000 (Nat.le_trans (partsN_len g') (by omega)))
      · obtain⟨j,hj,rfl⟩:=List.mem_map.mp (List.mem_of_getElem? hx)
        obtain⟨p,rfl,hp⟩:=partsN_in hj
        exact⟨_,rfl,_,rfl,l,_,_,_,rfl,rfl,SqL.of (s3 _ _ (s2 _ _ (s1 _ _ hl))),at_of (by omega),h1 _ rfl _ (.refl _)⟩
      · have ed:((List.range ((partsN g').map V.int).length).filterMap fun i=>(((partsN g').map V.int)[i]?).bind fun x=>match x with | .int i=>some (V.int (rs.getD i.toNat 0)) | _=>none)=(cutL rs g').map V.int:=by
          unfold cutL
          rw[fm_bind,List.filterMap_map,List.map_map]
          show(partsN g').filterMap (fun i=>some (V.int (rs.getD i.toNat 0)))=_
          rw[List.filterMap_eq_map']
          rfl
        rw[ed] at hd
        have s23:=s1.trans s2
        exact k g' D H3 rfl g1 gm (s23.free hD) (s23.trans s3) hd
def lwN (g:Nat):Nat:=((hands g).getD 0 0).toNat
def stayN (m g:Nat):Nat:=2^m-1-g+2^lwN g
def mI (g p:Nat):Nat:=if p &&& 2^lwN g=0 then p else p ||| g
def mrgL (rs:List Int) (m g:Nat):List Int:=(partsN (stayN m g)).map fun p=>rs.getD (mI g p.toNat) 0
theorem lw_all:∀g:_root_.Fin 64,1≤g.1→(hands g.1)[0]?=some ((lwN g.1:Nat):Int)∧lwN g.1<6∧alone (lwN g.1)=((2^lwN g.1:Nat):Int)∧2^lwN g.1≤g.1:=by decide +kernel
theorem mrg_all:∀(m:_root_.Fin 7) (g:_root_.Fin 64),1≤g.1→g.1<2^m.1→stayN m.1 g.1<2^m.1∧(List.range (2^m.1)).all (fun p=>decide (mI g.1 p<2^m.1))=true:=by decide +kernel
def spMrg (K:PySem.W.Frag) (NG:Addr):Sp:=fun vs H Q E=>∃(l:Addr) (m:Nat) (rs:List Int) (v:V),vs=[.ref l,v]∧H l=some (.lst (rs.map V.int))∧TabN m rs∧Pl K H v∧(inB 1 (2^m-1) v=false→∀H',Same H H'→E (.ref NG) none H') ∧
  ∀(g:Nat) q H',v = .int (g:Int)→1≤g→g<2^m→H q=none→Same H H'→H' q=some (.lst ((mrgL rs m g).map V.int))→Q (.ref q) H'
theorem scMrg:FnScope ["table","group","least","staying"] ["table","group"] (defScope sMrg):=⟨rfl,rfl,rfl,by decide +kernel,rfl,by decide +kernel,by decide +kernel⟩
theorem ok_mrg {f1 f2 f3 f4 f5:Addr}{fd1 fd2 fd3 fd4 fd5:FuncData} (t:Tx K mg "merged" sMrg ["table","group"] f fd) (T:T K mg AL LN RU PL CO fE fH rR rP iR iP wP iC cH cE cT cW iX SE NG NN NO NR NL NS NT NX NV TM UL) (D_check_some_group:Df P w K mg base (CX1 P w) 4 "check_some_group" ["table","group"] (spCsg K NG) f1 fd1)
    (D_parts_of:Df P w K mg base (CX1 P w) 4 "parts_of" ["group"] (spPts K NG) f2 fd2) (D_hands_of:Df P w K mg base (CX1 P w) 4 "hands_of" ["group"] (spHnd K NG) f3 fd3)
    (D_hands_in:Df P w K mg base (CX1 P w) 3 "hands_in" ["table"] (spHin K NT) f4 fd4) (D_whole_company:Df P w K mg base CX0 1 "whole_company" ["many"] spWC f5 fd5):Df P w K mg base (CX1 P w) 5 "merged" ["table","group"] (spMrg K NG) f fd:=by
  refine t.df1 scMrg (fun vs H Q E h=>?_) (fun cdv A outer s H vs Q E hr h=>?_)
  · obtain⟨l,m,rs,v,rfl,_⟩:=h
    rfl
  · obtain⟨l,m,rs,v,rfl,hl,tb,pl,k0,k⟩:=h
    have hp:=tb.pos
    refine⟨_,(pss_cons (ps_expr (pe_d1 rais_def.toPass D_check_some_group hr (by decide) (by rfl) (pa_cons (pv 0) (pa_cons (pv 1) pa_nil))))
      (pss_cons (ps_set (i:=2) scMrg.nd rfl (by first | exact Or.inl rfl | exact Or.inr rfl) (pe_ix ix_tup (pe_glob (v:=.ref AL) (by rfl) T.mAL rfl) (pe_ix ix_list (pe_d1 rais_def.toPass D_hands_of hr (by decide) (by rfl) (pa_cons (pv 1) pa_nil)) pe_int (fun _ _=>rfl)) (fun _ _=>rfl)))
      (pss_cons (ps_set (i:=3) scMrg.nd rfl (by first | exact Or.inl rfl | exact Or.inr rfl) (pe_op op_add (pe_op op_sub (pe_d0 D_whole_company hr (by decide) (by rfl) (pa_cons (pe_d1 rais_def.toPass D_hands_in hr (by decide) (by rfl) (pa_cons (pv 0) pa_nil)) pa_nil)) (pv 1)) (pv 2)))
      (pss_one (ps_ret (pe_comp (NB:=["part","group","least","table"]) (pick:=[none,some 1,some 2,some 0]) (blk_mk (by with_unfolding_all rfl) (by exact(And.intro rfl (And.intro rfl (And.intro rfl trivial)))) rfl (by decide +kernel) (by decide +kernel) (by rfl) (by rfl)) rfl
          (pi_list (pe_d1 rais_def.toPass D_parts_of hr (by decide) (by rfl) (pa_cons (pv 3) pa_nil))) (fun _ _ _=>pg_name (i:=0) (show(["part","group","least","table"]:List Str).Nodup from by decide +kernel) rfl (Or.inl rfl))
          (fun _ _ _=>pif_nil) (fun _ _ _=>(pe_ifExp (pt_cmpR op_ne (pe_op op_and (pv 0) (pv 2)) pe_int (nomark _)) (pe_ix (ix_listK K) (pv 3) (pe_op op_or (pv 0) (pv 1)) (fun _ _=>rfl)) (pe_ix (ix_listK K) (pv 3) (pv 0) (fun _ _=>rfl)))))))))),?_⟩
    refine⟨_,rfl,_,rfl,l,m,rs,v,rfl,hl,tb,pl,k0,fun hin H1 s1=>?_⟩
    obtain⟨g,rfl,g1,gm⟩:=inB_some hin
    have m6:=tb.2.1
    have hg64:g<64:=Nat.lt_of_lt_of_le gm (pow6 tb.2.1)
    obtain⟨w1,w2,w3,w4⟩:=lw_all ⟨g,hg64⟩ g1
    have w1:(hands g)[0]?=some ((lwN g:Nat):Int):=w1
    have w2:lwN g<6:=w2
    have w3:alone (lwN g)=((2^lwN g:Nat):Int):=w3
    have w4:2^lwN g≤g:=w4
    obtain⟨x1,x2⟩:=mrg_all ⟨m,by omega⟩ ⟨g,hg64⟩ g1 gm
    have x1:stayN m g<2^m:=x1
    have x2:∀p,p<2^m→mI g p<2^m:=fun p hp=>of_decide_eq_true (List.all_eq_true.mp x2 p (List.mem_range.mpr hp))
    refine⟨_,rfl,_,rfl,.int _,fun no=>?_,fun g' q H2 hv _ hq s2 h2=>?_⟩
    · exact absurd no (by rw[nat_inB (m:=6) hg64];decide)
    obtain rfl:g=g':=by have:=V.int.inj hv;omega
    have at0:atI ((hands g).map V.int) 0=some (.int ((lwN g:Nat):Int)):=by
      have z:=atI_nat (xs:=(hands g).map V.int) (j:=0) (v:=.int ((lwN g:Nat):Int)) (by rw[List.getElem?_map,w1];rfl)
      exact z
    have atA:=alone_at (i:=((lwN g:Nat):Int)) (by omega) (by omega)
    rw[Int.toNat_natCast,w3] at atA
    refine⟨q,_,_,_,rfl,rfl,SqL.of h2,at0,AL,_,_,_,rfl,rfl,T.al _,atA,?_⟩
    have s12:=s1.trans s2
    refine⟨_,rfl,l,_,rfl,s12 _ _ hl,pl_ints,by rw[List.length_map];omega,(fun e=>by rw[tabB_of tb] at e;cases e),fun m' m1 m6' hm _ H3 s3=>?_⟩
    rw[List.length_map,tb.2.2.1] at hm
    obtain rfl:=pow_inj hm
    refine⟨m,rfl,m6,fun H4 s4=>⟨_,rfl,_,_,rfl,rfl,_,rfl,_,_,rfl,rfl,?_⟩⟩
    have es:(2:Int)^m-1-(g:Int)+((2^lwN g:Nat):Int)=((stayN m g:Nat):Int):=by
      unfold stayN
      have e:((2^m:Nat):Int)=2^m:=by push_cast;rfl
      omega
    show gName 3 (V.int ((2:Int)^m-1-(g:Int)+((2^lwN g:Nat):Int))) _ _ _
    rw[es]
    have s14:=s12.trans (s3.trans s4)
    have h64:=pow6 m6
    refine⟨_,rfl,_,rfl,.int _,fun no=>?_,fun p' r H5 hv5 _ hr5 s5 h5=>?_⟩
    · exact absurd no (by rw[nat_inB (m:=6) (show stayN m g<2^6 by omega)];decide)
    obtain rfl:stayN m g=p':=by have:=V.int.inj hv5;omega
    refine⟨r,rfl,⟨_,SqL.of h5⟩,?_⟩
    have s15:=s14.trans s5
    refine comp_lst (xs:=(partsN (stayN m g)).map V.int) (fun _ x=>match x with | .int i=>some (.int (rs.getD (mI g i.toNat) 0)) | _=>none) (SqL.of h5) ?_ (fun i x H6 kk kk0 s6 hx h1 h2=>?_) fun D H6 hD s6 hd=>?_
    · rw[List.length_map]
      exact Nat.le_of_lt (small1000 (Nat.le_trans (partsN_len (stayN m g)) (by omega)))
    · obtain⟨j,hj,rfl⟩:=List.mem_map.mp (List.mem_of_getElem? hx)
      obtain⟨p,rfl,hp⟩:=partsN_in hj
      have hmi:=x2 p (by omega)
      have hl6:=s6 _ _ (s15 _ _ hl)
      have hlen:=tb.2.2.1
      refine⟨_,rfl,_,rfl,_,_,rfl,rfl,rfl,_,rfl,ite2 (fun h3=>?_) (fun h3=>?_)⟩
      · have z:p &&& 2^lwN g≠0:=fun z=>by
          have h3:(!decide (V.int (Builtin.bitAnd (p:Int) ((2^lwN g:Nat):Int))=V.int 0))=true:=h3
          rw[show Builtin.bitAnd (p:Int) ((2^lwN g:Nat):Int)=((p &&& 2^lwN g:Nat):Int) from rfl,z] at h3
          exact absurd h3 (by decide)
        have e:mI g p=p ||| g:=if_neg z
        have eo:Builtin.bitOr (p:Int) (g:Int)=((mI g p:Nat):Int):=by rw[e];exact bor (by omega) hg64
        refine⟨_,rfl,_,rfl,_,rfl,_,_,rfl,rfl,l,_,_,_,rfl,rfl,SqL.of hl6,(by rw[eo];exact at_of (by omega)),h1 _ rfl _ (.refl _)⟩
      · have z:p &&& 2^lwN g=0:=by
          have h3:¬(!decide (V.int (Builtin.bitAnd (p:Int) ((2^lwN g:Nat):Int))=V.int 0))=true:=h3
          rw[show Builtin.bitAnd (p:Int) ((2^lwN g:Nat):Int)=((p &&& 2^lwN g:Nat):Int) from rfl] at h3
          refine Classical.byContradiction fun q=>h3 ?_
          rw[decide_eq_false fun y=>q (by have:=V.int.inj y;omega)]
          rfl
        have e:mI g p=p:=if_pos z
        exact⟨_,rfl,_,rfl,l,_,_,_,rfl,rfl,SqL.of hl6,at_of (by omega),h1 _ (by show some (V.int (rs.getD (mI g (p:Int).toNat) 0))=_;rw[Int.toNat_natCast,e]) _ (.refl _)⟩
    · have ed:((List.range ((partsN (stayN m g)).map V.int).length).filterMap fun i=>(((partsN (stayN m g)).map V.int)[i]?).bind fun x=>match x with | .int i=>some (V.int (rs.getD (mI g i.toNat) 0)) | _=>none)=(mrgL rs m g).map V.int:=by
        unfold mrgL
        rw[fm_bind,List.filterMap_map,List.map_map]
        show(partsN (stayN m g)).filterMap (fun i=>some (V.int (rs.getD (mI g i.toNat) 0)))=_
        rw[List.filterMap_eq_map']
        rfl
      rw[ed] at hd
      exact k g D H6 rfl g1 gm (s15.free hD) (s15.trans s6) hd
def trnL (rs:List Int):List Int:=(List.range rs.length).map fun g=>rs.getD (rs.length-1) 0-rs.getD (rs.length-1-g) 0
def spTrd (K:PySem.W.Frag):Sp:=fun vs H Q _=>∃(l:Addr) (m:Nat) (rs:List Int),vs=[.ref l]∧H l=some (.lst (rs.map V.int))∧TabN m rs∧∀q H',H q=none→Same H H'→H' q=some (.lst ((trnL rs).map V.int))→Q (.ref q) H'
theorem scTrd:FnScope ["table","whole"] ["table"] (defScope sTrd):=⟨rfl,rfl,rfl,by decide +kernel,rfl,by decide +kernel,by decide +kernel⟩
theorem ok_trd {f1 f2:Addr}{fd1 fd2:FuncData} (t:Tx K mg "turned" sTrd ["table"] f fd) (T:T K mg AL LN RU PL CO fE fH rR rP iR iP wP iC cH cE cT cW iX SE NG NN NO NR NL NS NT NX NV TM UL) (D_hands_in:Df P w K mg base (CX1 P w) 3 "hands_in" ["table"] (spHin K NT) f1 fd1) (D_whole_company:Df P w K mg base CX0 1 "whole_company" ["many"] spWC f2 fd2) :
    Df P w K mg base (CX1 P w) 4 "turned" ["table"] (spTrd K) f fd:=by
  refine t.df1 scTrd (fun vs H Q E h=>?_) (fun cdv A outer s H vs Q E hr h=>?_)
  · obtain⟨l,m,rs,rfl,_⟩:=h
    rfl
  · obtain⟨l,m,rs,rfl,hl,tb,k⟩:=h
    have hp:=tb.pos
    refine⟨_,(pss_cons (ps_set (i:=1) scTrd.nd rfl (by first | exact Or.inl rfl | exact Or.inr rfl) (pe_d0 D_whole_company hr (by decide) (by rfl) (pa_cons (pe_d1 rais_def.toPass D_hands_in hr (by decide) (by rfl) (pa_cons (pv 0) pa_nil)) pa_nil)))
      (pss_one (ps_ret (pe_comp (NB:=["group","table","whole"]) (pick:=[none,some 0,some 1]) (blk_mk (by with_unfolding_all rfl) (by exact(And.intro rfl (And.intro rfl trivial))) rfl (by decide +kernel) (by decide +kernel) (by rfl) (by rfl)) rfl
          (pi_range1 (by rfl) T.b_range (pa_cons (pe_op op_add (pv 1) pe_int) pa_nil)) (fun _ _ _=>pg_name (i:=0) (show(["group","table","whole"]:List Str).Nodup from by decide +kernel) rfl (Or.inl rfl))
          (fun _ _ _=>pif_nil) (fun _ _ _=>(pe_op op_sub (pe_ix (ix_listK K) (pv 1) (pv 2) (fun _ _=>rfl)) (pe_ix (ix_listK K) (pv 1) (pe_op op_sub (pv 2) (pv 0)) (fun _ _=>rfl)))))))),?_⟩
    refine⟨_,rfl,l,_,rfl,hl,pl_ints,by rw[List.length_map];omega,(fun e=>by rw[tabB_of tb] at e;cases e),fun m' m1 m6 hm _ H1 s1=>?_⟩
    rw[List.length_map] at hm
    refine⟨m',rfl,m6,fun H2 s2=>?_⟩
    obtain⟨n,hn1,hn⟩:=pow_nat m'
    rw[hn]
    have s:=s1.trans s2
    have hl2:=s _ _ hl
    rw[hn1] at hm
    refine⟨_,rfl,_,_,rfl,rfl,((n+1:Nat):Int),(by show [V.int ((n:Int)+1)]=_;rw[show((n+1:Nat):Int)=(n:Int)+1 by omega]),by omega,by omega,?_⟩
    refine comp_itrS (n:=n+1) (fun g=>some (.int (rs.getD n 0-rs.getD (n-g) 0))) (Nat.le_of_lt (small1000 (by omega))) (fun i H3 kk kk0 hs hi h1 h2=>?_) fun D hD=>?_
    · have a2:atI (rs.map V.int) ((n:Int)-(0+(i:Int)))=some (.int (rs.getD (n-i) 0)):=by
        have z:=at_of (rs:=rs) (j:=n-i) (by omega)
        rw[show((n-i:Nat):Int)=(n:Int)-(0+(i:Int)) by omega] at z
        exact z
      exact⟨_,rfl,_,rfl,l,_,_,_,rfl,rfl,SqL.of (hs _ _ hl2),at_of (by omega),_,rfl,_,rfl,_,rfl,_,_,rfl,rfl,l,_,_,_,rfl,rfl,SqL.of (hs _ _ hl2),a2,_,_,rfl,rfl,h1 _ rfl⟩
    · have e:(List.range (n+1)).filterMap (fun g=>some (V.int (rs.getD n 0-rs.getD (n-g) 0)))=(trnL rs).map V.int:=by
        unfold trnL
        rw[hm,List.map_map,← List.filterMap_eq_map]
        rfl
      show Q _ (upd H2 D (.lst ((List.range (n+1)).filterMap fun g=>some (V.int (rs.getD n 0-rs.getD (n-g) 0)))))
      rw[e]
      exact k D _ (s.free hD) (s.trans (.upd_new hD)) upd_same
theorem log_lt {n:Int} (h:n.natAbs<10^60):n.natAbs.log2<1920:=by
  by_cases z:n.natAbs=0
  · rw[z]
    decide +kernel
  · exact(Nat.log2_lt z).mpr (Nat.lt_trans h (by decide +kernel))
theorem nW_len {i:Int} (h:i.natAbs<10^60):(nW i).length≤61:=by
  unfold nW
  cases i with
  | ofNat n =>
    have h:n<10^60:=h
    exact Nat.le_trans (PyProof.Rows.toString_length_le (v:=(n:Int)) (Int.natCast_nonneg n) (k:=60) (by decide) (by exact_mod_cast h)) (by decide)
  | negSucc n =>
    have h:n+1<10^60:=h
    have z:=PyProof.Rows.toString_length_le (v:=((n+1:Nat):Int)) (Int.natCast_nonneg _) (k:=60) (by decide) (by exact_mod_cast h)
    rw[PyProof.Rows.ofString_length] at z⊢
    rw[show toString (Int.negSucc n)="-" ++ toString ((n+1:Nat):Int) from rfl,String.toList_append,List.length_append]
    exact Nat.le_trans (Nat.add_le_add (show("-":String).toList.length≤1 by decide) z) (by decide)
def spNWo:Sp:=fun vs H Q _=>∃(p:Addr) (ns:List Int),vs=[.ref p]∧H p=some (.lst (ns.map V.int))∧ns.length≤64∧(∀n∈ns,n.natAbs<10^60)∧∀(D:Addr) (H':Hp),H D=none→Same H H'→H' D=some (.lst ((ns.map nW).map V.str))→Q (.ref D) H'
theorem scNWo:FnScope ["numbers"] ["numbers"] (defScope sNWo):=⟨rfl,rfl,rfl,by decide +kernel,rfl,by decide +kernel,by decide +kernel⟩
theorem ok_nwo (t:Tx K mg "number_words" sNWo ["numbers"] f fd) (T:T K mg AL LN RU PL CO fE fH rR rP iR iP wP iC cH cE cT cW iX SE NG NN NO NR NL NS NT NX NV TM UL):Df P w K mg base CX0 1 "number_words" ["numbers"] spNWo f fd:=by
  refine t.df0 scNWo (fun vs H Q E h=>?_) (fun cdv A outer s H vs Q E hr h=>?_)
  · obtain⟨p,ns,rfl,_⟩:=h
    rfl
  · obtain⟨p,ns,rfl,hp,h64,hn,k⟩:=h
    refine⟨_,(pss_one (ps_ret (pe_comp (NB:=["number"]) (pick:=[none]) (blk_mk (by with_unfolding_all rfl) (by exact trivial) rfl (by decide +kernel) (by decide +kernel) (by rfl) (by rfl)) rfl
          (pi_list (pv 0)) (fun _ _ _=>pg_name (i:=0) (show(["number"]:List Str).Nodup from by decide +kernel) rfl (Or.inl rfl))
          (fun _ _ _=>pif_nil) (fun _ _ _=>(pe_callTy call_str_int (by rfl) T.b_str bt_str (pa_cons (pv 0) pa_nil)))))),?_⟩
    refine⟨_,rfl,p,rfl,⟨_,SqL.of hp⟩,?_⟩
    refine comp_lst (xs:=ns.map V.int) (fun _ x=>match x with | .int i=>some (.str (nW i)) | _=>none) (SqL.of hp) (by rw[List.length_map];exact Nat.le_of_lt (small1000 (by omega))) (fun i x H2 kk kk0 s2 hx g1 g2=>?_) fun D H2 hD s2 hd=>?_
    · obtain⟨n,hm,rfl⟩:=List.mem_map.mp (List.mem_of_getElem? hx)
      exact⟨_,rfl,n,rfl,log_lt (hn n hm),g1 _ rfl _ (.refl _)⟩
    · refine k D H2 hD s2 ?_
      rw[hd,fm_bind,List.filterMap_map,List.map_map]
      show some (HO.lst (ns.filterMap fun i=>some (V.str (nW i))))=_
      rw[List.filterMap_eq_map']
      rfl
def wdT (h:Str) (ss:List Str):Str:=Txt.join (" ":Str) (h::ss)
theorem sum_len {B:Nat}:∀{ss:List Str},(∀s∈ss,s.length≤B)→(ss.map (·.length)).sum≤B*ss.length
  | [],_=>by simp
  | s::ss,h=>by
    have a:=h s List.mem_cons_self
    have b:=sum_len fun t ht=>h t (List.mem_cons_of_mem _ ht)
    rw[List.map_cons,List.sum_cons,List.length_cons,Nat.mul_succ]
    omega
theorem wd_room {h:Str}{ss:List Str} (h0:h.length≤185) (hl:ss.length≤200) (hs:∀s∈ss,s.length≤185):(((h::ss).map (·.length)).sum+(h::ss).length*(" ":Str).length≤16777216):=by
  have a:=sum_len hs
  have e:(" ":Str).length=1:=rfl
  rw[List.map_cons,List.sum_cons,List.length_cons,e,Nat.mul_one]
  have:=Nat.mul_le_mul_left 185 hl
  omega
theorem cat_room {a b:Nat} (h1:a≤8) (h2:b≤128):a+b≤sizeLine:=Nat.le_trans (Nat.add_le_add h1 h2) (by decide)
theorem nW_all {ns:List Int} (hn:∀n∈ns,n.natAbs<10^60):∀s∈ns.map nW,s.length≤185:=fun s hs=>by
  obtain⟨n,hm,rfl⟩:=List.mem_map.mp hs
  exact Nat.le_trans (nW_len (hn n hm)) (by decide)
def spPlW (PL:Addr):Sp:=fun vs H Q _=>∃(a dx l:Addr) (m:V) (e:Int) (ns:List Int),vs=[.ref a]∧H a=some (.ins PL dx [("many",m),("earnings",.ref l)])∧H l=some (.lst ((e::ns).map V.int))∧ns.length≤64∧(∀n∈ns,n.natAbs<10^60)∧∀H',Same H H'→Q (.str (wdT ("table":Str) (ns.map nW))) H'
theorem scPlW:FnScope ["self"] ["self"] (defScope sPlW):=⟨rfl,rfl,rfl,by decide +kernel,rfl,by decide +kernel,by decide +kernel⟩
theorem ok_plw {f1:Addr}{fd1:FuncData} (t:Mx K "words" "Plain.words" sPlW ["self"] f fd) (T:T K mg AL LN RU PL CO fE fH rR rP iR iP wP iC cH cE cT cW iX SE NG NN NO NR NL NS NT NX NV TM UL) (D_number_words:Df P w K mg base CX0 1 "number_words" ["numbers"] spNWo f1 fd1):Md P w K mg base 2 ["self"] (spPlW PL) f:=by
  refine t.md0 scPlW (fun vs H Q E h=>?_) (fun cdv A outer s H vs Q E hr h=>?_)
  · obtain⟨a,dx,l,m,e,ns,rfl,_⟩:=h
    rfl
  · obtain⟨a,dx,l,m,e,ns,rfl,ha,hl,h64,hn,k⟩:=h
    refine⟨_,(pss_one (ps_ret (pe_bm PySem.F.plainAttrs_str PySem.F.slot_str_join PySem.F.type_str_join mt_joinR pe_str (pa_cons (pe_op op_catQ (pe_lst (pa_cons pe_str pa_nil)) (pe_d0 D_number_words hr (by decide) (by rfl) (pa_cons (pe_slice sl_list (pe_fld (pv 0) rfl) (po_some pe_int) po_none) pa_nil))) pa_nil)))),?_⟩
    refine⟨rfl,by show 1≤sizeLine;decide,fun l0 hl0=>?_⟩
    have u0:=Same.upd_new (o:=.lst [V.str ("table":Str)]) hl0
    refine⟨_,rfl,a,PL,dx,_,_,rfl,u0 _ _ ha,T.rPL.oc.cl,T.nPL,rfl,1,rfl,l,_,rfl,SqL.of (u0 _ _ hl),fun l2 hl2=>?_⟩
    have ec:cutV ((e::ns).map V.int) (some 1) none=ns.map V.int:=by
      have z:=cut_lo ((e::ns).map V.int) 1
      exact z
    rw[ec]
    have u2:=Same.upd_new (o:=.lst (ns.map V.int)) hl2
    refine⟨l2,ns,rfl,upd_same,h64,hn,fun D H1 hD s1 h1=>?_⟩
    refine⟨l0,D,_,_,rfl,rfl,SqL.of (s1 _ _ (u2 _ _ upd_same)),SqL.of h1,(by rw[List.length_map,List.length_map];exact cat_room (by decide) (Nat.le_trans h64 (by decide))),fun p hp=>?_⟩
    refine⟨_,p,("table":Str)::ns.map nW,rfl,rfl,SqL.of upd_same,wd_room (by decide) (by rw[List.length_map];omega) (nW_all hn),k _ (u0.trans (u2.trans (s1.trans (.upd_new hp))))⟩
def WObj (P:Program) (w:World) (K:PySem.W.Frag) (mg:Str→Option Value) (base:Heap) (H:Hp) (a:Addr) (tx:Str):Prop :=
  ∃(C dx g:Addr) (fs:List (Str×V)),H a=some (.ins C dx fs)∧fs.lookup ("words":Str)=none∧Cls K C∧Meth K C "words" g ∧
    ∃ps,Md P w K mg base 3 ps (fun vs H2 Q _=>vs=[.ref a]∧Same H H2∧∀H3,Same H2 H3→Q (.str tx) H3) g
theorem WObj.same {H H':Hp}{a:Addr}{tx:Str} (r:WObj P w K mg base H a tx) (s:Same H H'):WObj P w K mg base H' a tx:=by
  obtain⟨C,dx,g,fs,h1,h2,h3,h4,ps,h7⟩:=r
  exact⟨C,dx,g,fs,s _ _ h1,h2,h3,h4,ps,h7.imp fun vs H2 Q _ ⟨e,b,d⟩=>⟨e,s.trans b,d⟩⟩
theorem w_plain (T:T K mg AL LN RU PL CO fE fH rR rP iR iP wP iC cH cE cT cW iX SE NG NN NO NR NL NS NT NX NV TM UL) (D:Md P w K mg base 2 ["self"] (spPlW PL) wP){H:Hp}{a dx l:Addr}{m:V}{e0:Int}{ns:List Int} (ha:H a=some (.ins PL dx [("many",m),("earnings",.ref l)])) (hl:H l=some (.lst ((e0::ns).map V.int))) (h64:ns.length≤64) (hn:∀n∈ns,n.natAbs<10^60):WObj P w K mg base H a (wdT ("table":Str) (ns.map nW)) :=
  ⟨PL,dx,wP,_,ha,rfl,T.rPL.oc.cl,T.wPL,_,(D.up (by decide)).imp fun vs H2 Q _ ⟨e,s,q⟩=>⟨a,dx,l,m,e0,ns,e,s _ _ ha,s _ _ hl,h64,hn,q⟩⟩
theorem made_at {H:Hp}{q x dx:Addr}{o u v:HO} (hq:H q=some o) (hx:H x=none) (hd:H dx=none):upd (upd H dx u) x v q=some o:=by
  rw[upd_ne (ne_of_none hq hx),upd_ne (ne_of_none hq hd)]
  exact hq
theorem made_fr {H:Hp}{l x dx:Addr}{u v:HO} (ne:dx≠x) (hl:upd (upd H dx u) x v l=none):H l=none:=by
  have nl:l≠x:=fun z=>by rw[z,upd_same] at hl;cases hl
  have nd:l≠dx:=fun z=>by rw[z,upd_ne ne,upd_same] at hl;cases hl
  rw[upd_ne nl,upd_ne nd] at hl
  exact hl
theorem tabB_ok {ns:List Int}{m:Nat} (hn:(0::ns).length=2^m) (h1:1≤m) (h6:m≤6):tabB ((0::ns).map V.int)=true:=by
  unfold tabB
  rw[all_ints,List.length_map,hn]
  have:∀m:_root_.Fin 7,1≤m.1→[2,4,8,16,32,64].contains (2^m.1)=true:=by decide
  rw[this ⟨m,by omega⟩ h1]
  rfl
theorem mk_plain {H:Hp}{q:Addr}{ns:List Int}{m:Nat}{x dx:Addr}{R:VK}{E:XK} (hx:H x=none) (hd:H dx=none) (ne:dx≠x) (hq:H q=some (.lst ((0::ns).map V.int))) (hn:(0::ns).length=2^m) (h1:1≤m) (h6:m≤6)
    (k:∀l H',H l=none→Same H H'→H' x=some (.ins PL dx [("many",.int (m:Int)),("earnings",.ref l)])→H' l=some (.lst ((0::ns).map V.int))→R .non H') :
    spPI K NT PL [.ref x,.ref q] (upd (upd H dx (.own x)) x (.ins PL dx [])) R E:=by
  have h64:=pow6 h6
  have ok:=tabB_ok hn h1 h6
  refine⟨x,dx,q,_,rfl,upd_same,made_at hq hx hd,pl_ints,by rw[List.length_map];omega,fun no=>?_,fun _ m' l H' m1 m6 hm' hl sb e1 e2=>?_⟩
  · rw[ok] at no
    cases no
  · have em:m'=m:=by
      rw[List.length_map,hn] at hm'
      have inj:∀a b:_root_.Fin 7,2^a.1=2^b.1→b.1=a.1:=by decide
      exact inj ⟨m,by omega⟩ ⟨m',by omega⟩ hm'
    subst em
    exact k l H' (made_fr ne hl) (sb.made hx hd ne) e1 e2
abbrev Ru:=Addr×Nat×(Nat→Int)
def RusAt (P:Program) (w:World) (K:PySem.W.Frag) (mg:Str→Option Value) (base:Heap) (fE fH RU:Addr) (H:Hp) (os:List Ru):Prop:=∀o∈os,RObj P w K mg base fE fH RU H o.1 o.2.1 o.2.2
theorem RusAt.same {fE fH RU:Addr}{H H':Hp}{os:List Ru} (h:RusAt P w K mg base fE fH RU H os) (s:Same H H'):RusAt P w K mg base fE fH RU H' os:=fun o ho=>(h o ho).same s
def refs (os:List Ru):List V:=os.map fun o=>V.ref o.1
def badC (v:V) (os:List Ru):Bool:=!(inB 1 6 v)||decide (12<os.length)||(os.any fun o=>!(decide (V.int (o.2.1:Int)=v)))
def spCI (P:Program) (w:World) (K:PySem.W.Frag) (mg:Str→Option Value) (base:Heap) (fE fH RU CO NL:Addr):Sp:=fun vs H Q E=>∃(x dx p:Addr) (v:V) (os:List Ru),vs=[.ref x,v,.ref p]∧H x=some (.ins CO dx [])∧H p=some (.lst (refs os))∧os.length≤60∧RusAt P w K mg base fE fH RU H os∧Pl K H v ∧
  (badC v os=true→∀H',Same H H'→E (.ref NL) none H') ∧
  (badC v os=false→∀l H',H l=none→SameBut x H H'→H' x=some (.ins CO dx [("many",v),("rules",.ref l)])→H' l=some (.lst (refs os))→Q .non H')
theorem scCI:FnScope ["self","many","rules"] ["self","many","rules"] (defScope sCI):=⟨rfl,rfl,rfl,by decide +kernel,rfl,by decide +kernel,by decide +kernel⟩
theorem ok_ci {f1:Addr}{fd1:FuncData} (t:Mx K "__init__" "Company.__init__" sCI ["self","many","rules"] f fd) (T:T K mg AL LN RU PL CO fE fH rR rP iR iP wP iC cH cE cT cW iX SE NG NN NO NR NL NS NT NX NV TM UL) (D_check_many:Df P w K mg base (CX1 P w) 3 "check_many" ["many"] (spChM K NL) f1 fd1) (D_Hs:Md P w K mg base 1 ["self"] (spHs K) fH) :
    Md P w K mg base 4 ["self","many","rules"] (spCI P w K mg base fE fH RU CO NL) f:=by
  refine t.md1 scCI (fun vs H Q E h=>?_) (fun cdv A outer s H vs Q E hr h=>?_)
  · obtain⟨x,dx,p,v,os,rfl,_⟩:=h
    rfl
  · obtain⟨x,dx,p,v,os,rfl,hx,hp,ol,ro,pl,k0,k⟩:=h
    obtain⟨tkMR,hMR⟩:=T.mr
    have rl:(refs os).length=os.length:=by unfold refs;rw[List.length_map]
    refine⟨_,(pss_cons (ps_expr (pe_d1 rais_def.toPass D_check_many hr (by decide) (by rfl) (pa_cons (pv 1) pa_nil)))
      (pss_cons (ps_if (pt_cmpR op_gt (pe_callB call_len_seq (by rfl) T.b_len bt_len (pa_cons (pv 2) pa_nil)) (pe_glob (v:=.int 12) (by rfl) hMR ⟨tkMR,rfl⟩) (nomark _)) (pss_one (ps_raise rais_def rfl (by rfl) T.mNL T.xNL (pa_cons pe_str pa_nil))) pss_nil)
      (pss_cons (ps_if (pt_val (pe_callB (call_any rfl) (by rfl) T.b_any bt_any (pa_cons (pe_comp (NB:=["rule","many"]) (pick:=[none,some 1]) (blk_mk (by with_unfolding_all rfl) (by exact(And.intro rfl trivial)) rfl (by decide +kernel) (by decide +kernel) (by rfl) (by rfl)) rfl
          (pi_list (pv 2)) (fun _ _ _=>pg_name (i:=0) (show(["rule","many"]:List Str).Nodup from by decide +kernel) rfl (Or.inl rfl))
          (fun _ _ _=>pif_nil) (fun _ _ _=>(pe_cmpR op_ne (pe_methX0K P w K mg base rfl rfl rfl rfl rfl (k:=1) pass_no (pv 0) hr (by decide)) (pv 1) (nomark _)))) pa_nil))) (pss_one (ps_raise rais_def rfl (by rfl) T.mNL T.xNL (pa_cons pe_str pa_nil))) pss_nil)
      (pss_cons (ps_fld (pv 0) (pv 1) rfl)
      (pss_one (ps_fld (pv 0) (pe_callTy call_list_of (by rfl) T.b_list bt_list (pa_cons (pv 2) pa_nil)) rfl)))))),?_⟩
    refine⟨_,rfl,v,rfl,pl,?_⟩
    cases e1:inB 1 6 v with
    | false =>
      rw[if_neg Bool.false_ne_true]
      exact k0 (by unfold badC;rw[e1];rfl) H (.refl _)
    | true =>
      rw[if_pos rfl]
      refine⟨_,rfl,p,_,rfl,.inl (SqL.of hp),_,_,rfl,rfl,_,rfl,?_⟩
      have ec:decide (((refs os).length:Int)>12)=decide (12<os.length):=by
        rw[rl]
        by_cases z:12<os.length
        · rw[decide_eq_true z,decide_eq_true (by omega)]
        · rw[decide_eq_false z,decide_eq_false (by omega)]
      show if decide (((refs os).length:Int)>12)=true then _ else _
      rw[ec]
      cases e2:decide (12<os.length) with
      | true=>exact iteT ⟨by show 1≤sizeLine;decide,k0 (by unfold badC;rw[e1,e2];rfl) H (.refl _)⟩
      | false =>
        refine iteF ?_
        obtain⟨m,rfl⟩:∃m:Int,v = .int m:=by
          cases v with
          | int i=>exact⟨i,rfl⟩
          | _=>cases e1
        refine⟨_,rfl,p,rfl,⟨_,SqL.of hp⟩,?_⟩
        refine comp_lst (xs:=refs os) (fun i _=>(os[i]?).map fun o=>V.bl (!decide (V.int (o.2.1:Int)=V.int m))) (SqL.of hp) (by rw[rl];exact Nat.le_of_lt (small1000 (by omega))) (fun i y H2 kk kk0 s2 hy g1 g2=>?_) fun D H2 hD s2 hd=>?_
        · have hi:i<os.length:=by
            obtain⟨z,_⟩:=List.getElem?_eq_some_iff.mp hy
            rw[rl] at z
            exact z
          obtain rfl:V.ref os[i].1=y:=by
            unfold refs at hy
            rw[List.getElem?_map,List.getElem?_eq_getElem hi] at hy
            exact Option.some.inj hy
          obtain⟨C,dx',g,fs,h1,h2,h3,h4,h5,h6,ps,h7⟩:=ro os[i] (List.getElem_mem hi)
          have h1:=s2 _ _ h1
          refine⟨_,rfl,os[i].1,C,dx',fs,fH,spHs K,rfl,h1,h6.2.1,h2.oc.cl,h2.mh,⟨_,D_Hs⟩,?_⟩
          refine⟨os[i].1,C,dx',fs,_,rfl,h1,h2.oc.cl,h2.nm,h3,_,rfl,rfl,g1 _ ?_ _ (.refl _)⟩
          rw[List.getElem?_eq_getElem hi]
          rfl
        have ed:((List.range (refs os).length).filterMap fun i=>((refs os)[i]?).bind fun _=>(os[i]?).map fun o=>V.bl (!decide (V.int (o.2.1:Int)=V.int m)))=(os.map fun o=>!decide (V.int (o.2.1:Int)=V.int m)).map V.bl:=by
          rw[rl,List.map_map]
          refine Eq.trans (fm_congr (g:=fun i=>(os[i]?).bind fun o=>some (V.bl (!decide (V.int (o.2.1:Int)=V.int m)))) fun i hi=>?_) ?_
          · have hi:=List.mem_range.mp hi
            rw[List.getElem?_eq_getElem (l:=refs os) (by rw[rl];exact hi),List.getElem?_eq_getElem hi]
            rfl
          · rw[fm_bind,List.filterMap_eq_map']
            rfl
        rw[ed] at hd
        refine⟨D,_,rfl,SqL.of hd,_,rfl,?_⟩
        have ea:(os.map fun o=>!decide (V.int (o.2.1:Int)=V.int m)).any id=os.any fun o=>!(decide (V.int (o.2.1:Int)=V.int m)):=by rw[List.any_map];rfl
        rw[ea]
        cases e3:os.any fun o=>!(decide (V.int (o.2.1:Int)=V.int m)) with
        | true=>exact iteT ⟨by show 1≤sizeLine;decide,k0 (by unfold badC;rw[e1,e2,e3];rfl) H2 s2⟩
        | false =>
          refine iteF ?_
          have hx2:=s2 _ _ hx
          have hp2:=s2 _ _ hp
          refine⟨_,rfl,_,rfl,x,CO,dx,[],rfl,hx2,T.rCO.oc.cl,T.rCO.nm,by decide,?_⟩
          have ne:p≠x:=ne_of hp hx (by intro z;cases z)
          have hp3:upd H2 x (.ins CO dx [("many",V.int m)]) p=some (.lst (refs os)):=by rw[upd_ne ne];exact hp2
          have sb:SameBut x H (upd H2 x (.ins CO dx [("many",V.int m)])):=(s2.but x).updx _
          have hx3:upd H2 x (.ins CO dx [("many",V.int m)]) x=some (.ins CO dx [("many",V.int m)]):=upd_same
          rw[show putF ("many":Str) (V.int m) []=[(("many":Str),V.int m)] from rfl]
          generalize upd H2 x (.ins CO dx [("many",V.int m)])=H3 at hp3 sb hx3⊢
          refine⟨_,rfl,p,_,rfl,.inl (SqL.of hp3),fun l hl=>?_⟩
          have u4:=Same.upd_new (o:=.lst (refs os)) hl
          have nl:l≠x:=(ne_of_none hx3 hl).symm
          refine⟨_,rfl,x,CO,dx,_,rfl,u4 _ _ hx3,T.rCO.oc.cl,T.rCO.nr,(by show 1<1000;decide),?_⟩
          refine k (by unfold badC;rw[e1,e2,e3];rfl) l _ ?_ ((sb.then u4).updx _) upd_same (by rw[upd_ne nl];exact upd_same)
          cases e:H l with
          | none=>rfl
          | some o =>
            have z:=sb l o nl e
            rw[hl] at z
            cases z
def CObj (P:Program) (w:World) (K:PySem.W.Frag) (mg:Str→Option Value) (base:Heap) (fE fH RU CO:Addr) (H:Hp) (a:Addr) (m:Nat) (os:List Ru):Prop :=
  ∃(dx l:Addr),H a=some (.ins CO dx [("many",.int (m:Int)),("rules",.ref l)])∧H l=some (.lst (refs os))∧os.length≤12∧1≤m∧m≤6∧RusAt P w K mg base fE fH RU H os∧∀o∈os,o.2.1=m
theorem CObj.same {fE fH RU CO:Addr}{H H':Hp}{a:Addr}{m:Nat}{os:List Ru} (h:CObj P w K mg base fE fH RU CO H a m os) (s:Same H H'):CObj P w K mg base fE fH RU CO H' a m os:=by
  obtain⟨dx,l,h1,h2,h3,h4,h5,h6,h7⟩:=h
  exact⟨dx,l,s _ _ h1,s _ _ h2,h3,h4,h5,h6.same s,h7⟩
def earnC (os:List Ru) (g:Nat):Int:=(os.map fun o=>o.2.2 g).sum
def spCE (P:Program) (w:World) (K:PySem.W.Frag) (mg:Str→Option Value) (base:Heap) (fE fH RU CO NG:Addr):Sp:=fun vs H Q E=>∃(a:Addr) (m:Nat) (os:List Ru) (v:V),vs=[.ref a,v]∧CObj P w K mg base fE fH RU CO H a m os∧Pl K H v ∧
  (inB 0 (2^m-1) v=false→∀H',Same H H'→E (.ref NG) none H')∧∀(g:Nat),v = .int (g:Int)→g<2^m→∀H',Same H H'→Q (.int (earnC os g)) H'
theorem scCE:FnScope ["self","group"] ["self","group"] (defScope sCE):=⟨rfl,rfl,rfl,by decide +kernel,rfl,by decide +kernel,by decide +kernel⟩
theorem ok_ce {f1:Addr}{fd1:FuncData} (t:Mx K "earn" "Company.earn" sCE ["self","group"] f fd) (T:T K mg AL LN RU PL CO fE fH rR rP iR iP wP iC cH cE cT cW iX SE NG NN NO NR NL NS NT NX NV TM UL) (D_check_group:Df P w K mg base (CX1 P w) 3 "check_group" ["group","many"] (spChk K NG) f1 fd1) (D_Ern:Md P w K mg base 7 ["self","group"] (spErn P w K mg base fE fH RU NG) fE) :
    Md P w K mg base 8 ["self","group"] (spCE P w K mg base fE fH RU CO NG) f:=by
  refine t.md1 scCE (fun vs H Q E h=>?_) (fun cdv A outer s H vs Q E hr h=>?_)
  · obtain⟨a,m,os,v,rfl,_⟩:=h
    rfl
  · obtain⟨a,m,os,v,rfl,co,pl,k0,k⟩:=h
    obtain⟨dx,l,h1,h2,h3,h4,h5,h6,h7⟩:=id co
    have rl:(refs os).length=os.length:=by unfold refs;rw[List.length_map]
    refine⟨_,(pss_cons (ps_expr (pe_d1 rais_def.toPass D_check_group hr (by decide) (by rfl) (pa_cons (pv 1) (pa_cons (pe_fld (pv 0) rfl) pa_nil))))
      (pss_one (ps_ret (pe_callB (call_sum rfl) (by rfl) T.b_sum bt_sum (pa_cons (pe_comp (NB:=["rule","group"]) (pick:=[none,some 1]) (blk_mk (by with_unfolding_all rfl) (by exact(And.intro rfl trivial)) rfl (by decide +kernel) (by decide +kernel) (by rfl) (by rfl)) rfl
          (pi_list (pe_fld (pv 0) rfl)) (fun _ _ _=>pg_name (i:=0) (show(["rule","group"]:List Str).Nodup from by decide +kernel) rfl (Or.inl rfl))
          (fun _ _ _=>pif_nil) (fun _ _ _=>(pe_methXK P w K mg base rfl rfl rfl rfl rfl (k:=7) pass_no (pv 0) hr (by decide) (pa_cons (pv 1) pa_nil)))) pa_nil))))),?_⟩
    refine⟨_,rfl,_,rfl,a,CO,dx,_,_,rfl,h1,T.rCO.oc.cl,T.rCO.nm,rfl,v,m,rfl,h5,pl,k0,fun yes H1 s1=>?_⟩
    obtain⟨gr,rfl,hg⟩:=inB_natM yes
    have hl1:=s1 _ _ h2
    refine⟨_,rfl,a,CO,dx,_,_,rfl,s1 _ _ h1,T.rCO.oc.cl,T.rCO.nr,rfl,l,rfl,⟨_,SqL.of hl1⟩,?_⟩
    refine comp_lst (xs:=refs os) (fun i _=>(os[i]?).map fun o=>V.int (o.2.2 gr)) (SqL.of hl1) (by rw[rl];exact Nat.le_of_lt (small1000 (by omega))) (fun i y H2 kk kk0 s2 hy g1 g2=>?_) fun D H2 hD s2 hd=>?_
    · have hi:i<os.length:=by
        obtain⟨z,_⟩:=List.getElem?_eq_some_iff.mp hy
        rw[rl] at z
        exact z
      obtain rfl:V.ref os[i].1=y:=by
        unfold refs at hy
        rw[List.getElem?_map,List.getElem?_eq_getElem hi] at hy
        exact Option.some.inj hy
      have ro:=(h6 os[i] (List.getElem_mem hi)).same (s1.trans s2)
      have hm:=h7 os[i] (List.getElem_mem hi)
      rw[hm] at ro
      obtain⟨C,dx',g,fs,r1,r2,r3,r4,r5,r6,ps,r7⟩:=id ro
      refine⟨_,rfl,os[i].1,C,dx',fs,fE,_,rfl,r1,r6.1,r2.oc.cl,r2.me,⟨_,D_Ern⟩,?_⟩
      refine⟨_,rfl,os[i].1,m,_,_,rfl,ro,.int _,(fun no=>?_),fun g' eg hg' H3 s3=>?_⟩
      · rw[yes] at no
        cases no
      · obtain rfl:gr=g':=by have:=V.int.inj eg;omega
        refine g1 _ ?_ _ s3
        rw[List.getElem?_eq_getElem hi]
        rfl
    have ed:((List.range (refs os).length).filterMap fun i=>((refs os)[i]?).bind fun _=>(os[i]?).map fun o=>V.int (o.2.2 gr))=(os.map fun o=>o.2.2 gr).map V.int:=by
      rw[rl,List.map_map]
      refine Eq.trans (fm_congr (g:=fun i=>(os[i]?).bind fun o=>some (V.int (o.2.2 gr))) fun i hi=>?_) ?_
      · have hi:=List.mem_range.mp hi
        rw[List.getElem?_eq_getElem (l:=refs os) (by rw[rl];exact hi),List.getElem?_eq_getElem hi]
        rfl
      · rw[fm_bind,List.filterMap_eq_map']
        rfl
    rw[ed] at hd
    exact⟨D,_,rfl,.inl (SqL.of hd),k gr rfl hg H2 (s1.trans s2)⟩
def tabC (m:Nat) (os:List Ru):List Int:=(List.range (2^m)).map (earnC os)
def spCT (P:Program) (w:World) (K:PySem.W.Frag) (mg:Str→Option Value) (base:Heap) (fE fH RU CO:Addr):Sp:=fun vs H Q _=>∃(a:Addr) (m:Nat) (os:List Ru),vs=[.ref a]∧CObj P w K mg base fE fH RU CO H a m os∧∀D H',H D=none→Same H H'→H' D=some (.lst ((tabC m os).map V.int))→Q (.ref D) H'
theorem scCT:FnScope ["self"] ["self"] (defScope sCT):=⟨rfl,rfl,rfl,by decide +kernel,rfl,by decide +kernel,by decide +kernel⟩
theorem ok_ct {f1:Addr}{fd1:FuncData} (t:Mx K "table" "Company.table" sCT ["self"] f fd) (T:T K mg AL LN RU PL CO fE fH rR rP iR iP wP iC cH cE cT cW iX SE NG NN NO NR NL NS NT NX NV TM UL) (D_whole_company:Df P w K mg base CX0 1 "whole_company" ["many"] spWC f1 fd1) (D_CE:Md P w K mg base 8 ["self","group"] (spCE P w K mg base fE fH RU CO NG) cE) :
    Md P w K mg base 9 ["self"] (spCT P w K mg base fE fH RU CO) f:=by
  refine t.md0 scCT (fun vs H Q E h=>?_) (fun cdv A outer s H vs Q E hr h=>?_)
  · obtain⟨a,m,os,rfl,_⟩:=h
    rfl
  · obtain⟨a,m,os,rfl,co,k⟩:=h
    obtain⟨dx,l,h1,h2,h3,h4,h5,h6,h7⟩:=id co
    have h64:2^m≤64:=Nat.pow_le_pow_right (n:=2) (by decide) h5
    have hpos:0<2^m:=Nat.pow_pos (by decide)
    refine⟨_,(pss_one (ps_ret (pe_comp (NB:=["group","self"]) (pick:=[none,some 0]) (blk_mk (by with_unfolding_all rfl) (by exact(And.intro rfl trivial)) rfl (by decide +kernel) (by decide +kernel) (by rfl) (by rfl)) rfl
          (pi_range1 (by rfl) T.b_range (pa_cons (pe_op op_add (pe_d0 D_whole_company hr (by decide) (by rfl) (pa_cons (pe_fld (pv 0) rfl) pa_nil)) pe_int) pa_nil)) (fun _ _ _=>pg_name (i:=0) (show(["group","self"]:List Str).Nodup from by decide +kernel) rfl (Or.inl rfl))
          (fun _ _ _=>pif_nil) (fun _ _ _=>(pe_methXK P w K mg base rfl rfl rfl rfl rfl (k:=8) pass_no (pv 1) hr (by decide) (pa_cons (pv 0) pa_nil)))))),?_⟩
    refine⟨_,rfl,a,CO,dx,_,_,rfl,h1,T.rCO.oc.cl,T.rCO.nm,rfl,m,rfl,h5,fun H1 s1=>?_⟩
    refine⟨_,_,rfl,rfl,((2^m:Nat):Int),(by show [V.int ((2:Int)^m-1+1)]=_;rw[Int.sub_add_cancel];push_cast;rfl),by omega,by omega,?_⟩
    refine comp_rng (lo:=0) (n:=2^m) (fun g=>some (.int (earnC os g))) (Nat.le_of_lt (small1000 (by omega))) (fun i H2 kk kk0 s2 hi g1 g2=>?_) fun D H2 hD s2 hd=>?_
    · rw[Int.zero_add (i:Int)]
      have co2:=co.same (s1.trans s2)
      refine⟨_,rfl,a,CO,dx,_,cE,_,rfl,(s1.trans s2) _ _ h1,rfl,T.rCO.oc.cl,T.rCO.me,⟨_,D_CE⟩,_,rfl,a,m,os,_,rfl,co2,.int _,(fun no=>?_),fun g' eg hg' H3 s3=>?_⟩
      · exact absurd no (by rw[nat_inB hi];decide)
      · obtain rfl:i=g':=by have:=V.int.inj eg;omega
        exact g1 _ rfl _ s3
    have ed:(List.range (2^m)).filterMap (fun g=>some (V.int (earnC os g)))=(tabC m os).map V.int:=by
      unfold tabC
      rw[List.map_map,← List.filterMap_eq_map]
      rfl
    rw[ed] at hd
    exact k D H2 (s1.free hD) (s1.trans s2) hd
theorem mk_comp {fE fH RU CO NL:Addr}{H:Hp}{q:Addr}{m:Nat}{os:List Ru}{x dx:Addr}{R:VK}{E:XK} (hx:H x=none) (hd:H dx=none) (ne:dx≠x) (hq:H q=some (.lst (refs os))) (o12:os.length≤12) (ro:RusAt P w K mg base fE fH RU H os) (om:∀o∈os,o.2.1=m) (h1:1≤m) (h6:m≤6)
    (k:∀l H',H l=none→Same H H'→H' x=some (.ins CO dx [("many",.int (m:Int)),("rules",.ref l)])→H' l=some (.lst (refs os))→R .non H') :
    spCI P w K mg base fE fH RU CO NL [.ref x,.int (m:Int),.ref q] (upd (upd H dx (.own x)) x (.ins CO dx [])) R E:=by
  have sm:Same H (upd (upd H dx (.own x)) x (.ins CO dx [])):=SameBut.made hx hd ne ((Same.refl _).but x)
  have b:badC (.int (m:Int)) os=false:=by
    unfold badC
    have i16:inB 1 6 (.int (m:Int))=true:=by rw[inB_16,decide_eq_true h1,decide_eq_true h6];rfl
    have ea:(os.any fun o=>!(decide (V.int (o.2.1:Int)=V.int (m:Int))))=false:=List.any_eq_false.mpr fun o ho'=>by
      rw[om o ho',decide_eq_true rfl]
      decide
    rw[i16,ea,decide_eq_false (by omega)]
    rfl
  refine⟨x,dx,q,_,os,rfl,upd_same,sm _ _ hq,by omega,ro.same sm,.int _,(fun bad=>?_),fun _ l H' hl sb e1 e2=>k l H' (sm.free hl) (sb.made hx hd ne) e1 e2⟩
  rw[b] at bad
  cases bad
theorem st_lit {F:St→Hp→Prop}{σ σ':St}{H:Hp} (e:σ=σ') (h:F σ' H):F σ H:=e▸h
theorem seq_at {a b:TS}{D:Ends}{σ:St}{H:Hp} (R:St→Hp→Prop) (h1:(∀σ' H',R σ' H'→b D σ' H')→a { D with nx:=b D } σ H) (h2:∀σ' H',R σ' H'→b D σ' H'):tSeq a b D σ H:=h1 h2
def cwT (m:Nat) (ts:List Str):Str:=Txt.join ("; ":Str) ((("hands ":Str)++nW (m:Int))::ts)
def spCW (P:Program) (w:World) (K:PySem.W.Frag) (mg:Str→Option Value) (base:Heap) (fE fH RU CO:Addr):Sp:=fun vs H Q _=>∃(a:Addr) (m:Nat) (os:List Ru) (ts:List Str),vs=[.ref a]∧CObj P w K mg base fE fH RU CO H a m os∧ts.length=os.length∧(∀(i:Nat) (o:Ru) (tx:Str),os[i]?=some o→ts[i]?=some tx→WObj P w K mg base H o.1 tx)∧(∀t∈ts,t.length≤60000)∧∀H',Same H H'→Q (.str (cwT m ts)) H'
theorem cw_room {h:Str}{ts:List Str} (h0:h.length≤100) (hl:ts.length≤12) (hs:∀s∈ts,s.length≤60000):((h::ts).map (·.length)).sum+(h::ts).length*("; ":Str).length≤16777216:=by
  have a:=sum_len hs
  have e:("; ":Str).length=2:=rfl
  rw[List.map_cons,List.sum_cons,List.length_cons,e]
  have:=Nat.mul_le_mul_left 60000 hl
  omega
theorem scCW:FnScope ["self"] ["self"] (defScope sCW):=⟨rfl,rfl,rfl,by decide +kernel,rfl,by decide +kernel,by decide +kernel⟩
theorem ok_cw (t:Mx K "words" "Company.words" sCW ["self"] f fd) (T:T K mg AL LN RU PL CO fE fH rR rP iR iP wP iC cH cE cT cW iX SE NG NN NO NR NL NS NT NX NV TM UL):Md P w K mg base 4 ["self"] (spCW P w K mg base fE fH RU CO) f:=by
  refine t.md0 scCW (fun vs H Q E h=>?_) (fun cdv A outer s H vs Q E hr h=>?_)
  · obtain⟨a,m,os,ts,rfl,_⟩:=h
    rfl
  · obtain⟨a,m,os,ts,rfl,co,tl,wo,t6,k⟩:=h
    obtain⟨dx,l,h1,h2,h3,h4,h5,h6,h7⟩:=id co
    have rl:(refs os).length=os.length:=by unfold refs;rw[List.length_map]
    refine⟨_,(pss_one (ps_ret (pe_bm PySem.F.plainAttrs_str PySem.F.slot_str_join PySem.F.type_str_join mt_joinR pe_str (pa_cons (pe_op op_catQ (pe_lst (pa_cons (pe_op op_add_str pe_str (pe_callTy call_str_int (by rfl) T.b_str bt_str (pa_cons (pe_fld (pv 0) rfl) pa_nil))) pa_nil)) (pe_comp (NB:=["rule"]) (pick:=[none]) (blk_mk (by with_unfolding_all rfl) (by exact trivial) rfl (by decide +kernel) (by decide +kernel) (by rfl) (by rfl)) rfl
          (pi_list (pe_fld (pv 0) rfl)) (fun _ _ _=>pg_name (i:=0) (show(["rule"]:List Str).Nodup from by decide +kernel) rfl (Or.inl rfl))
          (fun _ _ _=>pif_nil) (fun _ _ _=>(pe_methX0K P w K mg base rfl rfl rfl rfl rfl (k:=3) pass_no (pv 0) hr (by decide))))) pa_nil)))),?_⟩
    have hm:(m:Int).natAbs<10^60:=Nat.lt_of_le_of_lt (show(m:Int).natAbs≤6 by omega) (by decide +kernel)
    have l1:=nW_len hm
    have lh:(("hands ":Str)++nW (m:Int)).length≤100:=by
      rw[Str.length_append]
      have:("hands ":Str).length=6:=rfl
      omega
    refine⟨rfl,_,rfl,a,CO,dx,_,_,rfl,h1,T.rCO.oc.cl,T.rCO.nm,rfl,(m:Int),rfl,log_lt hm,_,_,rfl,rfl,?_,by show 1≤sizeLine;decide,fun l0 hl0=>?_⟩
    · show("hands ":Str).length+(nW (m:Int)).length≤sizeLine
      rw[← Str.length_append]
      exact Nat.le_trans lh (by decide)
    have u0:=Same.upd_new (o:=.lst [V.str (("hands ":Str)++nW (m:Int))]) hl0
    refine⟨_,rfl,a,CO,dx,_,_,rfl,u0 _ _ h1,T.rCO.oc.cl,T.rCO.nr,rfl,l,rfl,⟨_,SqL.of (u0 _ _ h2)⟩,?_⟩
    refine comp_lst (xs:=refs os) (fun i _=>(ts[i]?).map V.str) (SqL.of (u0 _ _ h2)) (by rw[rl];exact Nat.le_of_lt (small1000 (by omega))) (fun i y H2 kk kk0 s2 hy g1 g2=>?_) fun D H2 hD s2 hd=>?_
    · have hi:i<os.length:=by
        obtain⟨z,_⟩:=List.getElem?_eq_some_iff.mp hy
        rw[rl] at z
        exact z
      obtain rfl:V.ref os[i].1=y:=by
        unfold refs at hy
        rw[List.getElem?_map,List.getElem?_eq_getElem hi] at hy
        exact Option.some.inj hy
      have ht:ts[i]?=some ts[i]:=List.getElem?_eq_getElem (by omega)
      obtain⟨C,dx',g,fs,r1,r2,r3,r4,ps,r7⟩:=(wo i os[i] ts[i] (List.getElem?_eq_getElem hi) ht).same (u0.trans s2)
      exact⟨_,rfl,os[i].1,C,dx',fs,g,_,rfl,r1,r2,r3,r4,⟨ps,r7⟩,rfl,.refl _,fun H3 s3=>g1 _ (by rw[ht];rfl) _ s3⟩
    have ed:((List.range (refs os).length).filterMap fun i=>((refs os)[i]?).bind fun _=>(ts[i]?).map V.str)=ts.map V.str:=by
      rw[rl]
      refine Eq.trans (fm_congr (g:=fun i=>(ts[i]?).bind fun t=>some (V.str t)) fun i hi=>?_) ?_
      · have hi:=List.mem_range.mp hi
        rw[List.getElem?_eq_getElem (l:=refs os) (by rw[rl];exact hi),List.getElem?_eq_getElem (l:=ts) (by omega)]
        rfl
      · rw[← tl,fm_bind,List.filterMap_eq_map']
    rw[ed] at hd
    refine⟨l0,D,_,_,rfl,rfl,SqL.of (s2 _ _ upd_same),SqL.of hd,(by rw[List.length_map];exact cat_room (by show 1≤8;decide) (by omega)),fun p hp=>?_⟩
    exact⟨_,p,(("hands ":Str)++nW (m:Int))::ts,rfl,rfl,SqL.of upd_same,cw_room lh (by omega) t6,k _ (u0.trans (s2.trans (.upd_new hp)))⟩
def spMOf (K:PySem.W.Frag):Sp:=fun vs H Q _=>∃m:Nat,vs=[.str (("hands ":Str)++nW (m:Int))]∧1≤m∧m≤6∧Q (.int (m:Int)) H
theorem scMOf:FnScope ["part","many"] ["part"] (defScope sMOf):=⟨rfl,rfl,rfl,by decide +kernel,rfl,by decide +kernel,by decide +kernel⟩
theorem ok_mof (t:Tx K mg "many_of" sMOf ["part"] f fd) (T:T K mg AL LN RU PL CO fE fH rR rP iR iP wP iC cH cE cT cW iX SE NG NN NO NR NL NS NT NX NV TM UL):Df P w K mg base CX0 1 "many_of" ["part"] (spMOf K) f fd:=by
  refine t.df0 scMOf (fun vs H Q E h=>?_) (fun cdv A outer s H vs Q E hr h=>?_)
  · obtain⟨m,rfl,_⟩:=h
    rfl
  · obtain⟨m,rfl,m1,m6,k⟩:=h
    refine⟨_,(pss_cons (ps_for PassesOwn.never rfl (pi_range2 (by rfl) T.b_range (pa_cons pe_int (pa_cons (pe_callB call_len_seq (by rfl) T.b_len bt_len (pa_cons (pe_glob (v:=.ref LN) (by rfl) T.mLN rfl) pa_nil)) pa_nil))) (pg_name (i:=1) scMOf.nd rfl (Or.inl rfl))
        (pss_one (ps_if (pt_cmpR op_eq (pv 0) (pe_fs (pj_cons pe_str (pj_cons (pe_fv (pv 1)) pj_nil))) (nomark _)) (pss_one (ps_ret (pv 1))) pss_nil)))
      (pss_one ps_dead)),?_⟩
    refine⟨LN,_,rfl,.inr (T.ln H),1,7,rfl,⟨by decide,by decide,by decide,by decide⟩,?_⟩
    have hsame:∀a b:_root_.Fin 7,decide (V.str (("hands ":Str)++nW ((a.1:Nat):Int))=V.str (Str.empty++("hands ":Str)++nW ((b.1:Nat):Int)))=decide (a.1=b.1):=by decide +kernel
    refine for_range (lo:=1) (n:=6) (fun i σ' H'=>H'=H∧i+1≤m∧∃o:Option V,σ'=[some (.str (("hands ":Str)++nW (m:Int))),o]) ⟨rfl,m1,_,rfl⟩ ?_ ?_
    · rintro i σ' H' hi ⟨rfl,him,o,rfl⟩
      have e1:(1:Int)+(i:Int)=((i+1:Nat):Int):=by push_cast;omega
      rw[e1]
      have hi6:(((i+1:Nat):Int)).natAbs<10^60:=Nat.lt_of_le_of_lt (show(((i+1:Nat):Int)).natAbs≤6 by omega) (by decide +kernel)
      have ln:=nW_len hi6
      refine⟨_,rfl,_,rfl,?_⟩
      have e6:(Str.empty++("hands ":Str)).length=6:=rfl
      have lt:(Str.empty++("hands ":Str)++nW ((i+1:Nat):Int)).length≤sizeLine:=by
        rw[Str.length_append,e6]
        exact Nat.le_trans (Nat.add_le_add_left ln 6) (by decide)
      refine⟨by decide,_,rfl,((i+1:Nat):Int),rfl,log_lt hi6,nW ((i+1:Nat):Int),rfl,lt,lt,rfl,_,rfl,?_⟩
      dsimp only
      have hc:=hsame ⟨m,by omega⟩ ⟨i+1,by omega⟩
      rw[show decide (V.str (Str.ofString "hands " ++ nW (m:Int))=V.str (Str.empty++Str.ofString "hands " ++ nW ((i+1:Nat):Int)))=decide (m=i+1) from hc]
      by_cases z:m=i+1
      · rw[decide_eq_true z]
        refine iteT ⟨_,rfl,?_⟩
        rw[z] at k
        exact k
      · rw[decide_eq_false z]
        exact iteF ⟨rfl,by omega,_,rfl⟩
    · rintro σ' H' ⟨_,him,_⟩
      omega
def sExSet (K:PySem.W.Frag) (ta tv:TE) (f:Str):TS:=fun D σ H=>tv σ H fun y H1=>ta σ H1 fun x H2=>∃(e C Sh g:Addr),x = .ref e∧H2 e=some (exN e C)∧ExcI K C Sh g∧PySem.W.findIn K (.ref C) f=some none∧∀d,H2 d=none→d≠e→D.nx σ (upd (upd H2 d (.xd [(f,y)])) e (exD e C d))
theorem ps_exSet {X:Cx}{o value:Expr}{f:Str}{pos pos':Pos}{ta tv:TE} (ha:PE X o ta) (hv:PE X value tv) (hs:swapsWith value (some (.Attribute o f pos')) pos.line X.env=pure false):PS X (.Assign [.Attribute o f pos'] value pos) (sExSet X.K ta tv f):=by
  unfold PS PE at *
  intro pins s σ H D I h
  refine plainObj_wpAny_Assign_Attribute (thn (hv pins s σ H _ I h) fun u s1 ⟨y,H1,I1,ry,q⟩=>thn (ha pins s1 σ H1 _ I1 q) fun ov s2 ⟨x,H2,I2,rx,a,C,Sh,g,ex,ea,c,n,q2⟩=>?_) hs
  subst ex
  obtain rfl:ov=Value.ref a:=rx
  exact exset_ok I2 ea c n ry fun d s3 hd ne I3=>⟨σ,_,I3,q2 d hd ne⟩
def spXI (K:PySem.W.Frag):List V→Hp→VK→Prop:=fun vs H Q=>∃(e C Sh g:Addr) (i:Int),vs=[.ref e,.int i]∧i.natAbs≤100∧H e=some (exN e C)∧ExcI K C Sh g∧PySem.W.findIn K (.ref C) "part"=some none∧∀d,H d=none→d≠e→Q .non (upd (upd H d (.xd [("part",.int i)])) e (exD e C d))
theorem scXI:FnScope ["self","part"] ["self","part"] (defScope sXI):=⟨rfl,rfl,rfl,by decide +kernel,rfl,by decide +kernel,by decide +kernel⟩
theorem ok_xi (t:Mx K "__init__" "NoText.__init__" sXI ["self","part"] f fd) (T:T K mg AL LN RU PL CO fE fH rR rP iR iP wP iC cH cE cT cW iX SE NG NN NO NR NL NS NT NX NV TM UL):FnH P w K mg base 1 f fd ["self","part"] (spXI K):=by
  refine t.fn.okH scXI (fun vs H Q h=>?_) (fun cdv A outer s H vs Q hr h=>?_)
  · obtain⟨e,C,Sh,g,i,rfl,_⟩:=h
    rfl
  · obtain⟨e,C,Sh,g,i,rfl,hi,he,c,pt,k⟩:=h
    refine⟨_,(pss_cons (ps_expr (pe_exInit (by rfl) T.mSE T.kSE (pa_cons (pv 0) (pa_cons (pe_fs (pj_cons pe_str (pj_cons (pe_fv (pv 1)) (pj_cons pe_str pj_nil)))) pa_nil))))
      (pss_one (ps_exSet (pv 0) (pv 1) rfl))),?_⟩
    have hi60:i.natAbs<10^60:=Nat.lt_of_le_of_lt hi (by decide +kernel)
    have ln:=nW_len hi60
    have e5:(Str.empty++("part ":Str)).length=5:=rfl
    have e35:(" of the text is not as it should be":Str).length=35:=rfl
    have l1:(Str.empty++("part ":Str)++nW i).length≤66:=by rw[Str.length_append,e5];omega
    have l2:(Str.empty++("part ":Str)++nW i++(" of the text is not as it should be":Str)).length≤101:=by rw[Str.length_append,e35];omega
    have sz:∀{n:Nat},n≤200→n≤sizeLine:=fun h=>Nat.le_trans h (by decide)
    refine⟨_,rfl,_,rfl,by decide,_,rfl,i,rfl,log_lt hi60,nW i,rfl,sz (Nat.le_trans l1 (by decide)),_,rfl,sz (Nat.le_trans l2 (by decide)),sz (Nat.le_trans l2 (by decide)),e,C,Sh,g,_,rfl,(by show 1≤sizeLine;decide),c,he,?_⟩
    exact⟨_,rfl,_,rfl,e,C,Sh,g,rfl,he,c,pt,k⟩
theorem dg_more {m k:Nat} (hk:0<k) (h:10^k≤m):k<(dg m).length:=by
  unfold dg
  rw[List.length_map]
  rcases Nat.lt_or_ge k (Nat.toDigits 10 m).length with z | z
  · exact z
  · have:=(Nat.length_toDigits_le_iff (b:=10) (n:=m) (by decide) hk).mp z
    omega
theorem figW_more {n:Int}{k:Nat} (hk:0<k) (h:10^k≤n.natAbs):k<(figW n).length:=by
  unfold figW
  rw[str_len,nW_nat]
  exact dg_more hk h
def spNOf (NL:Addr):Sp:=fun vs H Q E=>∃n:Int,vs=[.str (nW n)]∧n.natAbs<10^60∧(n.natAbs<10^30→∀H',Same H H'→Q (.int n) H')∧(10^30≤n.natAbs→∀H',Same H H'→E (.ref NL) none H')
theorem scNOf:FnScope ["word","figures"] ["word"] (defScope sNOf):=⟨rfl,rfl,rfl,by decide +kernel,rfl,by decide +kernel,by decide +kernel⟩
theorem ok_nof (t:Tx K mg "number_of" sNOf ["word"] f fd) (T:T K mg AL LN RU PL CO fE fH rR rP iR iP wP iC cH cE cT cW iX SE NG NN NO NR NL NS NT NX NV TM UL):Df P w K mg base (CX1 P w) 1 "number_of" ["word"] (spNOf NL) f fd:=by
  refine t.df1 scNOf (fun vs H Q E h=>?_) (fun cdv A outer s H vs Q E hr h=>?_)
  · obtain⟨n,rfl,_⟩:=h
    rfl
  · obtain⟨n,rfl,n60,k,kb⟩:=h
    obtain⟨tkMF,hMF⟩:=T.mf
    obtain⟨tkFG,hFG⟩:=T.fg
    refine⟨_,(pss_cons (ps_set (i:=1) scNOf.nd rfl (by first | exact Or.inl rfl | exact Or.inr rfl) (pe_ifExp (pt_val (pe_bm PySem.F.plainAttrs_str PySem.F.slot_str_startswith PySem.F.type_str_startswith mt_startsR (pv 0) (pa_cons pe_str pa_nil))) (pe_slice sl_str (pv 0) (po_some pe_int) po_none) (pv 0)))
      (pss_cons (ps_if (PW.pt (pw_or (pt_not (pt_chain op_le op_le pe_int (pe_callB call_len_str (by rfl) T.b_len bt_len (pa_cons (pv 1) pa_nil)) (pe_glob (v:=.int 30) (by rfl) hMF ⟨tkMF,rfl⟩))) (pw_or1 (pt_not (pt_val (pe_callB (call_all rfl) (by rfl) T.b_all bt_all (pa_cons (pe_comp (NB:=["sign"]) (pick:=[none]) (blk_mk (by with_unfolding_all rfl) (by exact trivial) rfl (by decide +kernel) (by decide +kernel) (by rfl) (by rfl)) rfl
          (pi_str (pv 1)) (fun _ _ _=>pg_name (i:=0) (show(["sign"]:List Str).Nodup from by decide +kernel) rfl (Or.inl rfl))
          (fun _ _ _=>pif_nil) (fun _ _ _=>(pe_cmpR op_in_str (pv 0) (pe_glob (v:=.str ("0123456789":Str)) (by rfl) hFG ⟨tkFG,rfl⟩) (by rfl)))) pa_nil))))))) (pss_one (ps_raise rais_def rfl (by rfl) T.mNL T.xNL (pa_cons pe_str pa_nil))) pss_nil)
      (pss_cons (ps_if (PW.pt (pw_and (pt_val (pe_bm PySem.F.plainAttrs_str PySem.F.slot_str_startswith PySem.F.type_str_startswith mt_startsR (pv 1) (pa_cons pe_str pa_nil))) (pw_and1 (pt_cmpR op_ne (pv 0) pe_str (nomark _))))) (pss_one ps_dead) pss_nil)
      (pss_one (ps_ret (pe_callTy call_int_text (by rfl) T.b_int bt_int (pa_cons (pv 0) pa_nil))))))),?_⟩
    obtain⟨f1,f60⟩:=figW_len (n:=n) (by decide) n60
    obtain⟨i1,i2⟩:=nW_int n60
    have sz:∀{x:Str},x.length≤640→x.length≤sizeLine:=fun h=>Nat.le_trans h (by decide)
    refine seq_at (fun σ' H'=>σ'=[some (.str (nW n)),some (.str (figW n))]∧H'=H) (fun tail=>?_) ?_
    · refine⟨_,rfl,rfl,_,_,rfl,rfl,_,rfl,?_⟩
      dsimp only
      by_cases z:n<0
      · rw[nW_starts,decide_eq_true z]
        refine iteT ⟨_,rfl,1,rfl,nW n,rfl,sz (Nat.le_trans (PyProof.Txt.length_slice_le _ _ _) i2),tail _ _ ⟨?_,rfl⟩⟩
        rw[nW_cut z]
        rfl
      · rw[nW_starts,decide_eq_false z]
        refine iteF ⟨_,rfl,tail _ _ ⟨?_,rfl⟩⟩
        rw[← figW_pos z]
        rfl
    rintro σ' H' ⟨rfl,rfl⟩
    have fsz:(figW n).length≤sizeLine:=Nat.le_trans f60 (by decide)
    have c1:decide ((1:Int)≤((figW n).length:Int))=true:=decide_eq_true (by omega)
    refine⟨_,rfl,_,rfl,fsz,_,_,rfl,rfl,?_⟩
    dsimp only
    refine⟨_,rfl,?_⟩
    rw[c1]
    refine iteT ⟨_,_,rfl,rfl,_,rfl,?_⟩
    rcases Nat.lt_or_ge n.natAbs (10^30) with hn | hn
    · obtain⟨_,f30⟩:=figW_len (n:=n) (by decide) hn
      have c2:decide (((figW n).length:Int)≤30)=true:=decide_eq_true (by omega)
      rw[c2]
      refine iteF ?_
      refine⟨_,rfl,figW n,rfl,ascii_of fun c hc=>by have:=figW_mem hc;omega,?_⟩
      refine comp_str (fun _=>some (.bl true)) (show(figW n).length≤sizeLine from fsz) (fun i x H2 kk kk0 s2 hx g1 g2=>?_) fun D H2 hD s2 hd=>?_
      · refine⟨_,rfl,_,_,rfl,rfl,g1 _ ?_ _ (.refl _)⟩
        rw[in_figs (figW_mem (n:=n) (List.mem_of_getElem? (by rw[Array.getElem?_toList];exact hx)))]
      have ed:(figW n).cps.toList.filterMap (fun _=>some (V.bl true))=((figW n).cps.toList.map fun _=>true).map V.bl:=by
        rw[List.map_map,← List.filterMap_eq_map]
        rfl
      rw[ed] at hd
      refine⟨D,_,rfl,SqL.of hd,_,rfl,?_⟩
      have ea:((figW n).cps.toList.map fun _=>true).all id=true:=by
        rw[List.all_map,List.all_eq_true]
        intro _ _
        rfl
      rw[ea]
      refine iteF ?_
      dsimp only[tNext]
      refine⟨_,rfl,rfl,_,_,rfl,rfl,_,rfl,?_⟩
      have fin:Q (.int n) H2:=k hn H2 s2
      cases hz:Txt.startswith (figW n) ("0":Str) with
      | false=>exact iteF ⟨_,rfl,_,_,rfl,i1,i2,fin⟩
      | true =>
        have e0:=figW_zero hz
        refine iteT ⟨_,rfl,rfl,_,rfl,?_⟩
        dsimp only
        rw[show decide (V.str (nW n)=V.str (Str.ofString "0"))=true from decide_eq_true (by rw[e0])]
        exact iteF ⟨_,rfl,_,_,rfl,i1,i2,fin⟩
    · have f31:=figW_more (n:=n) (k:=30) (by decide) hn
      have c2:decide (((figW n).length:Int)≤30)=false:=decide_eq_false (by omega)
      rw[c2]
      exact iteT ⟨by show 1≤sizeLine;decide,kb hn H' (.refl _)⟩
theorem comp_lstG {H1:Hp}{a i0:Addr}{xs:List V}{σ0:St}{te:TE}{Q:Addr→Hp→Prop} (G:Nat→Prop) (f:Nat→V→Option V) (hq:SqL K H1 a xs) (hn:xs.length≤sizeLine)
    (step:∀(i:Nat) (x:V) (H2:Hp) (k:VK),Same H1 H2→xs[i]?=some x→(∀y,f i x=some y→G i→∀H3,Same H2 H3→k y H3)→te (σ0.set i0 (some x)) H2 k)
    (h:∀D H2,H1 D=none→Same H1 H2→(∀j,j<xs.length→G j)→H2 D=some (.lst ((List.range xs.length).filterMap fun i=>(xs[i]?).bind (f i)))→Q D H2) :
    ∀D,H1 D=none→∃W:Nat→Nat→St→Hp→Prop,(∃m,W 0 m σ0 (upd H1 D (.lst [])))∧∀i m σ1 H2,W i m σ1 H2 →
      ((Itl K a).stop i H2∧Q D H2)∨((Itl K a).go i H2∧∃N:St→Hp→Prop,(∀σ' H',N σ' H'→∃m',m'<m∧W (i+1) m' σ' H') ∧
        ∀x H',(Itl K a).yld i H2 x H'→gName i0 x σ1 H' fun σ2 H3=>tYes σ2 H3 fun b H4=>if b=true then te σ2 H4 fun y H5=>∃xs,H5 D=some (.lst xs)∧xs.length<sizeLine∧N σ2 (upd H5 D (.lst (xs++[y]))) else N σ2 H4):=by
  intro D hD
  refine⟨fun i m σ1 H2=>σ1.set i0 none=σ0.set i0 none∧Same H1 H2∧H2 D=some (.lst ((List.range i).filterMap fun i=>(xs[i]?).bind (f i)))∧i≤xs.length∧(∀j,j<i→G j)∧m=xs.length-i,⟨xs.length,rfl,.upd_new hD,upd_same,Nat.zero_le _,fun j hj=>absurd hj (Nat.not_lt_zero j),rfl⟩,?_⟩
  rintro i m σ1 H2 ⟨hσ,hs,hd,hi,hg,rfl⟩
  have hset:∀v:Option V,σ1.set i0 v=σ0.set i0 v:=fun v=>by
    have z:=congrArg (fun l=>List.set l i0 v) hσ
    simpa using z
  rcases Nat.lt_or_ge i xs.length with hlt | hge
  · right
    refine⟨⟨xs,xs[i],hs.seq hq,by simp[hlt]⟩,fun σ' H'=>σ'.set i0 none=σ0.set i0 none∧Same H1 H'∧H' D=some (.lst ((List.range (i+1)).filterMap fun i=>(xs[i]?).bind (f i)))∧G i,fun σ' H' ⟨a,b,c,d⟩=>⟨xs.length-(i+1),by omega,a,b,c,hlt,fun j hj=>(Nat.lt_succ_iff_lt_or_eq.mp hj).elim (hg j) fun e=>e▸d,rfl⟩,?_⟩
    rintro x H' ⟨rfl,hx⟩
    have hx:=hx xs (hs.seq hq)
    show te (σ1.set i0 (some x)) _ _
    rw[hset]
    refine step i x _ _ hs hx (fun y hy gi H3 hs3=>⟨_,hs3 _ _ hd,?_,?_,?_,?_,gi⟩)
    · refine Nat.lt_of_le_of_lt (List.length_filterMap_le _ _) ?_
      rw[List.length_range]
      omega
    · simp
    · refine(hs.trans hs3).upd_ne' hD
    · rw[upd_same,List.range_succ,List.filterMap_append]
      simp[hx,hy]
  · left
    obtain rfl:i=xs.length:=Nat.le_antisymm hi hge
    exact⟨⟨xs,hs.seq hq,Nat.le_refl _⟩,h D _ hD hs hg hd⟩
def okT (n:Int):Bool:=decide (n.natAbs<10^30)
def spNsO (NL:Addr):Sp:=fun vs H Q E=>∃(p:Addr) (ns:List Int),vs=[.ref p]∧H p=some (.lst ((ns.map nW).map V.str))∧ns.length≤64∧(∀n∈ns,n.natAbs<10^60)∧(ns.all okT=true→∀(D:Addr) (H':Hp),H D=none→Same H H'→H' D=some (.lst (ns.map V.int))→Q (.ref D) H')∧(ns.all okT=false→∀H',Same H H'→E (.ref NL) none H')
theorem scNsO:FnScope ["words"] ["words"] (defScope sNsO):=⟨rfl,rfl,rfl,by decide +kernel,rfl,by decide +kernel,by decide +kernel⟩
theorem ok_nso {f1:Addr}{fd1:FuncData} (t:Tx K mg "numbers_of" sNsO ["words"] f fd) (T:T K mg AL LN RU PL CO fE fH rR rP iR iP wP iC cH cE cT cW iX SE NG NN NO NR NL NS NT NX NV TM UL) (D_number_of:Df P w K mg base (CX1 P w) 1 "number_of" ["word"] (spNOf NL) f1 fd1):Df P w K mg base (CX1 P w) 2 "numbers_of" ["words"] (spNsO NL) f fd:=by
  refine t.df1 scNsO (fun vs H Q E h=>?_) (fun cdv A outer s H vs Q E hr h=>?_)
  · obtain⟨p,ns,rfl,_⟩:=h
    rfl
  · obtain⟨p,ns,rfl,hp,h64,hn,k,kb⟩:=h
    refine⟨_,(pss_one (ps_ret (pe_compX (NB:=["word"]) (pick:=[none]) (blk_mk (by with_unfolding_all rfl) (by exact trivial) rfl (by decide +kernel) (by decide +kernel) (by rfl) (by rfl)) rfl ⟨rfl,rfl,rfl⟩ raisB_def
          (pi_list (pv 0)) (fun c _ H3=>E c none H3) (fun _ _ _ _ z=>z) (fun _ _ _=>pg_name (i:=0) (show(["word"]:List Str).Nodup from by decide +kernel) rfl (Or.inl rfl))
          (fun _ _ _=>pif_nil) (fun _ _ _=>(pe_d1 pass_blk D_number_of hr (by decide) (by rfl) (pa_cons (pv 0) pa_nil)))))),?_⟩
    refine⟨_,rfl,p,rfl,⟨_,SqL.of hp⟩,?_⟩
    refine comp_lstG (xs:=(ns.map nW).map V.str) (fun i=>∀n,ns[i]?=some n→okT n=true) (fun i _=>(ns[i]?).map V.int) (SqL.of hp) (by rw[List.length_map,List.length_map];exact Nat.le_of_lt (small1000 (by omega))) (fun i x H2 kk s2 hx g1=>?_) fun D H2 hD s2 hg hd=>?_
    · rw[List.getElem?_map,List.getElem?_map] at hx
      cases e:ns[i]? with
      | none=>rw[e] at hx;cases hx
      | some n =>
        rw[e] at hx
        cases hx
        refine⟨_,rfl,n,rfl,hn n (List.mem_of_getElem? e),fun ok H3 s3=>g1 _ (by rw[e];rfl) (fun n' e'=>by rw[e] at e';cases e';exact decide_eq_true ok) _ s3,fun no H3 s3=>kb ?_ H3 (s2.trans s3)⟩
        cases ea:ns.all okT with
        | false=>rfl
        | true =>
          have:=of_decide_eq_true (List.all_eq_true.mp ea n (List.mem_of_getElem? e))
          omega
    · refine k ?_ D H2 hD s2 ?_
      · refine List.all_eq_true.mpr fun n hm=>?_
        obtain⟨j,hj,e⟩:=List.getElem_of_mem hm
        exact hg j (by rw[List.length_map,List.length_map];exact hj) n (by rw[List.getElem?_eq_getElem hj,e])
      rw[hd]
      have e:((List.range ((ns.map nW).map V.str).length).filterMap fun i=>(((ns.map nW).map V.str)[i]?).bind fun _=>(ns[i]?).map V.int)=(List.range ns.length).filterMap fun i=>(ns[i]?).bind fun n=>some (V.int n):=by
        rw[List.length_map,List.length_map]
        refine fm_congr fun i hi=>?_
        rw[List.getElem?_map,List.getElem?_map]
        cases ns[i]? <;> rfl
      rw[e,fm_bind,List.filterMap_eq_map']
theorem passD_no {X:Cx}:PassD X (fun _ _ _ _=>False):=⟨fun _ _ _ _ _ _ _ _ _ _ _ _ q=>q.elim⟩
def tabT (ns:List Int):Str:=wdT ("table":Str) (ns.map nW)
def spROf (P:Program) (w:World) (K:PySem.W.Frag) (mg:Str→Option Value) (base:Heap) (fE fH RU NL PL:Addr):Sp:=fun vs H Q E=>∃(p:Addr) (m:Nat) (ns:List Int),vs=[.int (m:Int),.ref p]∧H p=some (.lst ((("table":Str)::ns.map nW).map V.str))∧ns.length=2^m-1∧(∀n∈ns,n.natAbs<10^60)∧1≤m∧m≤6 ∧
  (ns.all okT=true→∀x dx l H',H x=none→H l=none→Same H H'→H' x=some (.ins PL dx [("many",.int (m:Int)),("earnings",.ref l)])→H' l=some (.lst ((0::ns).map V.int))→Q (.ref x) H')∧(ns.all okT=false→∀H',Same H H'→E (.ref NL) none H')
theorem scROf:FnScope ["many","words","kind","told","numbers"] ["many","words"] (defScope sROf):=⟨rfl,rfl,rfl,by decide +kernel,rfl,by decide +kernel,by decide +kernel⟩
theorem ok_rof {f1:Addr}{fd1:FuncData} (t:Tx K mg "rule_of" sROf ["many","words"] f fd) (T:T K mg AL LN RU PL CO fE fH rR rP iR iP wP iC cH cE cT cW iX SE NG NN NO NR NL NS NT NX NV TM UL) (D_numbers_of:Df P w K mg base (CX1 P w) 2 "numbers_of" ["words"] (spNsO NL) f1 fd1) (D_PI:Md P w K mg base 5 ["self","table"] (spPI K NT PL) iP) :
    Df P w K mg base (CX1 P w) 7 "rule_of" ["many","words"] (spROf P w K mg base fE fH RU NL PL) f fd:=by
  refine t.df1 scROf (fun vs H Q E h=>?_) (fun cdv A outer s H vs Q E hr h=>?_)
  · obtain⟨p,m,ns,rfl,_⟩:=h
    rfl
  · obtain⟨p,m,ns,rfl,hp,sz,n60,m1,m6,k,kb⟩:=h
    refine⟨_,(pss_cons (ps_set (i:=2) scROf.nd rfl (Or.inl rfl) (pe_ix ix_list (pv 1) pe_int (fun _ _=>rfl)))
      (pss_cons (ps_set (i:=3) scROf.nd rfl (Or.inl rfl) (pe_slice sl_list (pv 1) (po_some pe_int) po_none))
      (pss_cons (ps_if (PW.pt (pw_and (pt_cmpR op_eq (pv 2) pe_str (nomark _)) (pw_and1 (pt_cmpR op_eq (pe_callB call_len_seq (by rfl) T.b_len bt_len (pa_cons (pv 3) pa_nil)) pe_int (nomark _))))) (pss_one ps_dead) pss_nil)
      (pss_cons (ps_if (PW.pt (pw_and (pt_cmpR op_eq (pv 2) pe_str (nomark _)) (pw_and1 (pt_cmpR op_eq (pe_callB call_len_seq (by rfl) T.b_len bt_len (pa_cons (pv 3) pa_nil)) (pv 0) (nomark _))))) (pss_one ps_dead) pss_nil)
      (pss_cons (ps_if (pt_cmpR op_eq (pv 2) pe_str (nomark _)) (pss_one ps_dead) pss_nil)
      (pss_cons (ps_if (PW.pt (pw_and (pt_cmpR op_eq (pv 2) pe_str (nomark _)) (pw_and1 (pt_cmpR op_eq (pe_callB call_len_seq (by rfl) T.b_len bt_len (pa_cons (pv 3) pa_nil)) (pe_op op_add (pv 0) pe_int) (nomark _))))) (pss_cons ps_dead
        (pss_one ps_dead)) pss_nil)
      (pss_cons (ps_if (pt_cmpR op_eq (pv 2) pe_str (nomark _)) (pss_one ps_dead) pss_nil)
      (pss_cons (ps_if (PW.pt (pw_and (pt_cmpR op_eq (pv 2) pe_str (nomark _)) (pw_and1 (pt_cmpR op_ge (pe_callB call_len_seq (by rfl) T.b_len bt_len (pa_cons (pv 3) pa_nil)) (pv 0) (nomark _))))) (pss_one ps_dead) pss_nil)
      (pss_cons (ps_if (PW.pt (pw_and (pt_cmpR op_eq (pv 2) pe_str (nomark _)) (pw_and1 (pt_cmpR op_eq (pe_callB call_len_seq (by rfl) T.b_len bt_len (pa_cons (pv 3) pa_nil)) (pe_op op_sub (pe_ix ix_tup (pe_glob (v:=.ref LN) (by rfl) T.mLN rfl) (pv 0) (fun _ _=>rfl)) pe_int) (nomark _))))) (pss_one (ps_ret (pe_makeX rais_def.toPass T.kPL D_PI hr (by decide) (by rfl) T.mPL (pa_cons (pe_op op_catQ (pe_lst (pa_cons pe_int pa_nil)) (pe_d1 rais_def.toPass D_numbers_of hr (by decide) (by rfl) (pa_cons (pv 3) pa_nil))) pa_nil)))) pss_nil)
      (pss_one ps_dead)))))))))),?_⟩
    have hat0:atI ((("table":Str)::ns.map nW).map V.str) 0=some (.str ("table":Str)):=atI_nat (j:=0) rfl
    refine⟨_,rfl,p,_,_,_,rfl,rfl,SqL.of hp,hat0,?_⟩
    refine⟨_,rfl,1,rfl,p,_,rfl,SqL.of hp,fun lt hlt=>?_⟩
    have ec:cutV ((("table":Str)::ns.map nW).map V.str) (some 1) none=(ns.map nW).map V.str:=cut_lo ((("table":Str)::ns.map nW).map V.str) 1
    rw[ec]
    have u1:=Same.upd_new (o:=.lst ((ns.map nW).map V.str)) hlt
    have ht:upd H lt (.lst ((ns.map nW).map V.str)) lt=some (.lst ((ns.map nW).map V.str)):=upd_same
    generalize upd H lt (.lst ((ns.map nW).map V.str))=H1 at u1 ht⊢
    dsimp only[gName]
    refine st_lit (σ':=[some (.int (m:Int)),some (.ref p),some (.str ("table":Str)),some (.ref lt),none]) rfl ?_
    have h64:2^m≤64:=Nat.pow_le_pow_right (n:=2) (by decide) m6
    have hpos:0<2^m:=Nat.pow_pos (by decide)
    have tl:((ns.map nW).map V.str).length=ns.length:=by rw[List.length_map,List.length_map]
    have hz:(((ns.map nW).map V.str).length:Int)=((2^m:Nat):Int)-1:=by rw[tl,sz];omega
    have hn:(0::ns).length=2^m:=by rw[List.length_cons];omega
    refine⟨_,rfl,rfl,_,rfl,iteF ?_⟩
    dsimp only[tNext]
    refine⟨_,rfl,rfl,_,rfl,iteF ?_⟩
    dsimp only[tNext]
    refine⟨_,rfl,rfl,_,rfl,iteF ?_⟩
    dsimp only[tNext]
    refine⟨_,rfl,rfl,_,rfl,iteF ?_⟩
    dsimp only[tNext]
    refine⟨_,rfl,rfl,_,rfl,iteF ?_⟩
    dsimp only[tNext]
    refine⟨_,rfl,rfl,_,rfl,iteF ?_⟩
    dsimp only[tNext]
    refine⟨_,rfl,rfl,_,rfl,iteT ?_⟩
    have hat:atI (lensL.map V.int) (m:Int)=some (.int ((2^m:Nat):Int)):=by
      have:∀m:_root_.Fin 7,(lensL.map V.int)[m.1]?=some (.int ((2^m.1:Nat):Int)):=by decide
      exact atI_nat (this ⟨m,by omega⟩)
    refine⟨_,rfl,lt,_,rfl,.inl (SqL.of ht),_,rfl,LN,_,_,_,rfl,rfl,T.ln _,hat,_,_,rfl,rfl,rfl,_,rfl,ite2 (fun _=>?_) (fun h=>absurd (decide_eq_true (congrArg V.int hz)) h)⟩
    refine⟨by show 1≤sizeLine;decide,fun lz hlz=>?_⟩
    have uz:=Same.upd_new (o:=.lst [V.int 0]) hlz
    refine⟨_,rfl,lt,ns,rfl,uz _ _ ht,by omega,n60,fun ok ln H2 hln s2 hn2=>?_,fun no H2 s2=>kb no H2 (u1.trans (uz.trans s2))⟩
    refine⟨lz,ln,_,_,rfl,rfl,SqL.of (s2 _ _ upd_same),SqL.of hn2,(by rw[List.length_map];exact Nat.le_of_lt (small1000 (by show 1+_≤_;omega))),fun l2 hl2=>?_⟩
    rw[show [V.int 0]++ns.map V.int=(0::ns).map V.int from rfl]
    have u2:=(u1.trans (uz.trans s2)).trans (Same.upd_new (o:=.lst ((0::ns).map V.int)) hl2)
    refine fun x dx hx hd ne=>mk_plain hx hd ne upd_same hn m1 m6 fun l' H5 hl' s5 hx5 hl5=>⟨rfl,?_⟩
    exact k ok x dx l' H5 (u2.free hx) (u2.free hl') (u2.trans s5) hx5 hl5
theorem tab_join (ns:List Int):tabT ns=Str.join (" ":Str) (("table":Str)::ns.map nW):=StrLaws.glued_eq_join _ _
theorem join_mem {y:Str}{c:Nat}:∀(ps:List Str),c∈(Str.join y ps).cps.toList→c∈y.cps.toList∨∃p∈ps,c∈p.cps.toList
  | [],h=>by cases h
  | [p],h=>.inr ⟨p,List.mem_cons_self,h⟩
  | p::q::t,h=>by
    have h:c∈(p++y++Str.join y (q::t)).cps.toList:=h
    rw[Str.cps_append,Str.cps_append,Array.toList_append,Array.toList_append,List.mem_append,List.mem_append] at h
    rcases h with (h | h) | h
    · exact .inr ⟨p,List.mem_cons_self,h⟩
    · exact .inl h
    · rcases join_mem (q::t) h with h | ⟨s,hs,h⟩
      · exact .inl h
      · exact .inr ⟨s,List.mem_cons_of_mem _ hs,h⟩
theorem tab_words (ns:List Int):Txt.split (tabT ns) (" ":Str)=("table":Str)::ns.map nW:=by
  refine split_join (c:=32) (r:=[]) rfl (by decide +kernel) (fun z=>nomatch z) fun s hs=>?_
  rcases List.mem_cons.mp hs with rfl | hs
  · decide +kernel
  · obtain⟨n,_,rfl⟩:=List.mem_map.mp hs
    exact nW_free (by decide) n
theorem tab_free (ns:List Int):59∉(tabT ns).cps.toList:=by
  intro h
  rw[tab_join] at h
  rcases join_mem _ h with h | ⟨s,hs,h⟩
  · exact absurd h (by decide +kernel)
  · rcases List.mem_cons.mp hs with rfl | hs
    · exact absurd h (by decide +kernel)
    · obtain⟨n,_,rfl⟩:=List.mem_map.mp hs
      exact nW_free (by decide) n h
theorem tab_len2 {ns:List Int} (h64:ns.length≤64) (n60:∀n∈ns,n.natAbs<10^60):(tabT ns).length≤20000:=by
  rw[tab_join]
  refine Nat.le_trans (StrLaws.join_length_le _ _) ?_
  have a:=sum_len (nW_all n60)
  have e:(" ":Str).length=1:=rfl
  have e5:("table":Str).length=5:=rfl
  rw[List.length_map] at a
  rw[List.map_cons,List.sum_cons,List.length_cons,List.length_map,e,e5]
  omega
theorem cw_split (m:Nat) (ns:List Int):Txt.split (cwT m [tabT ns]) ("; ":Str)=[("hands ":Str)++nW (m:Int),tabT ns]:=by
  refine split_join (c:=59) (r:=[32]) rfl (by decide +kernel) (fun z=>nomatch z) fun s hs=>?_
  rcases List.mem_cons.mp hs with rfl | hs
  · intro h
    rw[Str.cps_append,Array.toList_append,List.mem_append] at h
    rcases h with h | h
    · exact absurd h (by decide +kernel)
    · exact nW_free (by decide) _ h
  · rw[List.mem_singleton.mp hs]
    exact tab_free ns
theorem cw_len {m:Nat}{ns:List Int} (m6:m≤6) (h64:ns.length≤64) (n60:∀n∈ns,n.natAbs<10^60):(cwT m [tabT ns]).length≤100000:=by
  unfold cwT
  rw[show Txt.join ("; ":Str) [("hands ":Str)++nW (m:Int),tabT ns]=Str.join ("; ":Str) _ from StrLaws.glued_eq_join _ _]
  refine Nat.le_trans (StrLaws.join_length_le _ _) ?_
  have a:=tab_len2 h64 n60
  have l1:=nW_len (i:=(m:Int)) (Nat.lt_of_le_of_lt (show(m:Int).natAbs≤6 by omega) (by decide +kernel))
  have e:("; ":Str).length=2:=rfl
  have e6:("hands ":Str).length=6:=rfl
  simp only[List.map_cons,List.map_nil,List.sum_cons,List.sum_nil,List.length_cons,List.length_nil,Str.length_append,e,e6]
  omega
def CoT (P:Program) (w:World) (K:PySem.W.Frag) (mg:Str→Option Value) (base:Heap) (fE fH RU CO:Addr) (H:Hp) (c:Addr) (m:Nat) (ns:List Int):Prop:=∃x:Addr,CObj P w K mg base fE fH RU CO H c m [(x,m,fun g=>(0::ns).getD g 0)]∧WObj P w K mg base H x (tabT ns)
def spRea (P:Program) (w:World) (K:PySem.W.Frag) (mg:Str→Option Value) (base:Heap) (fE fH RU CO NX PL:Addr):Sp:=fun vs H Q E=>∃(m:Nat) (ns:List Int),vs=[.str (cwT m [tabT ns])]∧ns.length=2^m-1∧(∀n∈ns,n.natAbs<10^60)∧1≤m∧m≤6 ∧
  (ns.all okT=true→∀c H',Same H H'→CoT P w K mg base fE fH RU CO H' c m ns→Q (.ref c) H')∧(ns.all okT=false→∀d H',Same H H'→H' d=some (.xd [("part",.int 1)])→E (.ref NX) (some d) H')
theorem scRea:FnScope ["text","parts","many","rules","place","part"] ["text"] (defScope sRea):=⟨rfl,rfl,rfl,by decide +kernel,rfl,by decide +kernel,by decide +kernel⟩
theorem ok_rea {f1 f2:Addr}{fd1 fd2 fdX:FuncData} (t:Tx K mg "read" sRea ["text"] f fd) (T:T K mg AL LN RU PL CO fE fH rR rP iR iP wP iC cH cE cT cW iX SE NG NN NO NR NL NS NT NX NV TM UL) (D_many_of:Df P w K mg base CX0 1 "many_of" ["part"] (spMOf K) f1 fd1) (D_rule_of:Df P w K mg base (CX1 P w) 7 "rule_of" ["many","words"] (spROf P w K mg base fE fH RU NL PL) f2 fd2)
    (D_CI:Md P w K mg base 4 ["self","many","rules"] (spCI P w K mg base fE fH RU CO NL) iC) (F_XI:FnH P w K mg base 1 iX fdX ["self","part"] (spXI K)) (B_XI:Binds K fdX ["self","part"] []) (D_PR:Md P w K mg base 1 ["self","group"] (spPR PL) rP) (D_PlW:Md P w K mg base 2 ["self"] (spPlW PL) wP) :
    Df P w K mg base (CX2 P w) 9 "read" ["text"] (spRea P w K mg base fE fH RU CO NX PL) f fd:=by
  refine t.df2 scRea (fun vs H Q E h=>?_) (fun cdv A outer s H vs Q E hr h=>?_)
  · obtain⟨m,ns,rfl,_⟩:=h
    rfl
  · obtain⟨m,ns,rfl,sz,n60,m1,m6,k,kb⟩:=h
    obtain⟨tkMR,hMR⟩:=T.mr
    refine⟨_,(pss_cons (ps_set (i:=1) scRea.nd rfl (Or.inl rfl) (pe_bm PySem.F.plainAttrs_str PySem.F.slot_str_split PySem.F.type_str_split mt_splitR (pv 0) (pa_cons pe_str pa_nil)))
      (pss_cons (ps_set (i:=2) scRea.nd rfl (Or.inl rfl) (pe_d0 D_many_of hr (by decide) (by rfl) (pa_cons (pe_ix ix_list (pv 1) pe_int (fun _ _=>rfl)) pa_nil)))
      (pss_cons (ps_set (i:=3) scRea.nd rfl (Or.inl rfl) (pe_lst pa_nil))
      (pss_cons (ps_for raisD_def.own rfl (pi_enumS (by rfl) T.b_enum (pa_cons (pe_slice sl_list (pv 1) (po_some pe_int) po_none) pa_nil) pe_int) (pg_tup rfl (pgs_cons (pg_name (i:=4) scRea.nd rfl (Or.inl rfl)) (pgs_cons (pg_name (i:=5) scRea.nd rfl (Or.inl rfl)) pgs_nil)))
        (pss_cons (ps_if (pt_cmpR op_gt (pv 4) (pe_glob (v:=.int 12) (by rfl) hMR ⟨tkMR,rfl⟩) (nomark _)) (pss_one ps_dead) pss_nil)
        (pss_one (ps_tryR (tb:=fun Ex=>tDrop (tBM K "list" rAppend (tVar 3) (tCons (tCallX (spROf P w K mg base fE fH RU NL PL) [] Ex (tCons (tVar 2) (tCons (tBM K "str" rSplit (tVar 5) (tCons (tC (V.str (" ":Str))) tNil)) tNil))) tNil))) (th:=fun e0=>tRaiseE NX e0 (spXI K) _ (tCons (tVar 4) tNil) (fun c d _ H3=>E c (some d) H3)) ⟨rfl,rfl,rfl⟩ rfl (fun pins Ex=>(pss_one (ps_expr (pe_bm PySem.F.plainAttrs_list PySem.F.slot_list_append PySem.F.type_list_append mt_appendR (pv 3) (pa_cons (pe_d1 pass_try D_rule_of hr (by decide) (by rfl) (pa_cons (pv 2) (pa_cons (pe_bm PySem.F.plainAttrs_str PySem.F.slot_str_split PySem.F.type_str_split mt_splitR (pv 5) (pa_cons pe_str pa_nil)) pa_nil))) pa_nil))))) (by rfl) T.mNL T.cNL raisD_def.mrk
          (fun e0=>(pss_one (ps_raiseE T.iNX F_XI (Room.h (hr.mono (by decide))) B_XI (by rfl) T.mNX (pa_cons (pv 4) pa_nil) (fun _=>hr.hd) (fun pins σ H3 s3 e1 t1 d1 h1=>raisD_def.nw pins σ H3 s3 e1 _ t1 d1 e0 h1))))))))
      (pss_one (ps_ret (pe_makeX pass_no T.kCO D_CI hr (by decide) (by rfl) T.mCO (pa_cons (pv 2) (pa_cons (pv 3) pa_nil))))))))),?_⟩
    have hpos:0<2^m:=Nat.pow_pos (by decide)
    have h64:2^m≤64:=Nat.pow_le_pow_right (n:=2) (by decide) m6
    have cl:=cw_len (m:=m) (ns:=ns) m6 (by omega) n60
    have cs:=cw_split m ns
    generalize cwT m [tabT ns]=tx at cl cs⊢
    refine⟨_,rfl,rfl,tx,("; ":Str),rfl,rfl,rfl,Nat.le_trans (Nat.add_le_add_right cl 2) (by decide),fun lp hlp=>?_⟩
    rw[cs]
    have u1:=Same.upd_new (o:=.lst ([("hands ":Str)++nW (m:Int),tabT ns].map V.str)) hlp
    have h1:upd H lp (.lst ([("hands ":Str)++nW (m:Int),tabT ns].map V.str)) lp=some (.lst ([("hands ":Str)++nW (m:Int),tabT ns].map V.str)):=upd_same
    generalize upd H lp (.lst ([("hands ":Str)++nW (m:Int),tabT ns].map V.str))=H1 at u1 h1⊢
    dsimp only[gName]
    refine⟨_,rfl,lp,_,_,_,rfl,rfl,SqL.of h1,atI_nat (j:=0) rfl,m,rfl,m1,m6,?_⟩
    dsimp only[gName]
    refine⟨by show 0≤sizeLine;decide,fun lr hlr=>?_⟩
    have u2:=Same.upd_new (o:=.lst []) hlr
    have h2:upd H1 lr (.lst []) lr=some (.lst []):=upd_same
    have flr:H1 lr=none:=hlr
    generalize upd H1 lr (.lst [])=H2 at u2 h2⊢
    dsimp only[gName]
    refine st_lit (σ':=[some (.str tx),some (.ref lp),some (.int (m:Int)),some (.ref lr),none,none]) rfl ?_
    refine⟨_,rfl,1,rfl,lp,_,rfl,SqL.of (u2 _ _ h1),fun lq hlq=>?_⟩
    have ec:cutV ([("hands ":Str)++nW (m:Int),tabT ns].map V.str) (some 1) none=[V.str (tabT ns)]:=cut_lo ([("hands ":Str)++nW (m:Int),tabT ns].map V.str) 1
    rw[ec]
    have u3:=Same.upd_new (o:=.lst [V.str (tabT ns)]) hlq
    have h3:upd H2 lq (.lst [V.str (tabT ns)]) lq=some (.lst [V.str (tabT ns)]):=upd_same
    have hr3:=u3 _ _ h2
    have nq:lq≠lr:=(ne_of_none h2 hlq).symm
    generalize upd H2 lq (.lst [V.str (tabT ns)])=H3 at u3 h3 hr3⊢
    refine⟨lq,rfl,⟨_,SqL.of h3⟩,?_⟩
    refine for_enumS (xs:=[V.str (tabT ns)]) (fun i σ' H'=>Same H1 H'∧H' lq=some (.lst [V.str (tabT ns)])∧∃(o4 o5:Option V),σ'=[some (.str tx),some (.ref lp),some (.int (m:Int)),some (.ref lr),o4,o5]∧((i=0∧H' lr=some (.lst []))∨(i=1∧ns.all okT=true∧∃x dx l,H' lr=some (.lst [V.ref x])∧H' x=some (.ins PL dx [("many",.int (m:Int)),("earnings",.ref l)])∧H' l=some (.lst ((0::ns).map V.int))))) ⟨u2.trans u3,h3,_,_,rfl,.inl ⟨rfl,hr3⟩⟩ (fun i σ' H' _ hp=>SqL.of hp.2.1) ?_ ?_
    · rintro i x t σ' H4 hx ht ⟨u4,h4,o4,o5,rfl,inv⟩
      have hi:i=0:=by
        obtain⟨z,_⟩:=List.getElem?_eq_some_iff.mp hx
        have z:i<1:=z
        omega
      subst hi
      obtain rfl:x=V.str (tabT ns):=(Option.some.inj hx).symm
      have hr4:H4 lr=some (.lst []):=by
        rcases inv with ⟨_,z⟩ | ⟨z,_⟩
        · exact z
        · exact absurd z (by decide)
      have wd:=tab_words ns
      have wl:=tab_len2 (ns:=ns) (by omega) n60
      have v5:=Same.upd_new (o:=.tup [V.int (((0:Nat):Int)+1),V.str (tabT ns)]) ht
      have ht5:upd H4 t (.tup [V.int (((0:Nat):Int)+1),V.str (tabT ns)]) t=some (.tup [V.int (((0:Nat):Int)+1),V.str (tabT ns)]):=upd_same
      generalize upd H4 t (.tup [V.int (((0:Nat):Int)+1),V.str (tabT ns)])=H5 at v5 ht5⊢
      refine⟨t,_,rfl,SqT.of ht5,rfl,_,_,rfl,_,_,rfl,rfl,?_⟩
      refine⟨_,rfl,_,_,rfl,rfl,_,rfl,ite2 (fun h=>absurd (of_decide_eq_true h) (by decide)) (fun _=>?_)⟩
      have hr5:=v5 _ _ hr4
      refine⟨_,rfl,.inl ⟨rfl,_,SqL.of hr5⟩,_,rfl,_,rfl,rfl,_,(" ":Str),rfl,rfl,rfl,Nat.le_trans (Nat.add_le_add_right wl 2) (by decide),fun lw hlw=>?_⟩
      rw[wd]
      have v6:=Same.upd_new (o:=.lst ((("table":Str)::ns.map nW).map V.str)) hlw
      refine⟨lw,m,ns,rfl,upd_same,sz,n60,m1,m6,fun ok x dx l H7 hx hl s7 hx7 hl7=>?_,fun no H7 s7=>?_⟩
      · have hr7:=s7 _ _ (v6 _ _ hr5)
        refine⟨lr,_,_,rfl,rfl,hr7,by decide,?_⟩
        have kp:∀b o,b≠lr→H7 b=some o→upd H7 lr (.lst ([]++[V.ref x])) b=some o:=fun b o n e=>by rw[upd_ne n];exact e
        have nx:x≠lr:=(ne_of_none (v6 _ _ hr5) hx).symm
        have nl:l≠lr:=(ne_of_none (v6 _ _ hr5) hl).symm
        refine⟨(u4.trans (v5.trans (v6.trans s7))).upd_ne' flr,kp _ _ nq (s7 _ _ (v6 _ _ (v5 _ _ h4))),_,_,rfl,.inr ⟨rfl,ok,x,dx,l,upd_same,kp _ _ nx hx7,kp _ _ nl hl7⟩⟩
      · refine⟨NL,rfl,T.uNL,fun e0 he0=>⟨_,rfl,by show 1≤sizeLine;decide,fun e he hs0=>⟨e,NX,SE,iX,1,rfl,by decide,upd_same,T.iNX,T.pNX,fun d hd ne=>⟨rfl,e,d,upd (upd H7 e0 (excC e0)) d (.xd [("part",.int 1)]),rfl,hs0,?_,?_,?_,?_⟩⟩⟩⟩
        · rw[upd_comm2 ne,upd_upd,upd_comm2 ne.symm]
        · rw[upd_ne ne.symm]
          exact he
        · have n0:e0≠d:=fun z=>by
            have n1:e0≠e:=fun y=>by rw[← y,upd_same] at he;cases he
            rw[← z,upd_ne n1,upd_same] at hd
            cases hd
          rw[upd_ne n0,upd_same]
        · have hd0:upd H7 e0 (excC e0) d=none:=by rw[upd_ne ne] at hd;exact hd
          exact kb no d _ ((((u1.trans u4).trans v5).trans (v6.trans s7)).trans ((Same.upd_new he0).trans (Same.upd_new hd0))) upd_same
    · rintro σ' H4 ⟨u4,h4,o4,o5,rfl,inv⟩
      rcases inv with ⟨z,_⟩ | ⟨_,ok,x,dx,l,hr4,hx4,hl4⟩
      · exact absurd z (Nat.succ_ne_zero 0)
      have hn:(0::ns).length=2^m:=by rw[List.length_cons];omega
      have ro:RObj P w K mg base fE fH RU H4 x m (fun g=>(0::ns).getD g 0):=plain_obj D_PR T.rPL hx4 hl4 hn m1 m6
      have wo:WObj P w K mg base H4 x (tabT ns):=w_plain T D_PlW hx4 hl4 (by omega) n60
      refine⟨_,rfl,_,rfl,fun c dc hc hdc ne=>mk_comp (os:=[(x,m,fun g=>(0::ns).getD g 0)]) hc hdc ne hr4 (by show 1≤12;decide) (fun o ho=>by rw[List.mem_singleton.mp ho];exact ro) (fun o ho=>by rw[List.mem_singleton.mp ho]) m1 m6 fun lc H6 hlc s6 hc6 hlc6=>⟨rfl,?_⟩⟩
      exact k ok c H6 ((u1.trans u4).trans s6) ⟨x,⟨dc,lc,hc6,hlc6,(by show 1≤12;decide),m1,m6,fun o ho=>by rw[List.mem_singleton.mp ho];exact ro.same s6,fun o ho=>by rw[List.mem_singleton.mp ho]⟩,wo.same s6⟩
def spSho:Sp:=fun vs H Q _=>∃(l:Addr) (m:Nat) (ns:List Int),vs=[.ref l]∧H l=some (.lst ((0::ns).map V.int))∧ns.length=2^m-1∧(∀n∈ns,n.natAbs<10^60)∧1≤m∧m≤6∧∀H',Same H H'→Q (.str (cwT m [tabT ns])) H'
theorem scSho:FnScope ["table"] ["table"] (defScope sSho):=⟨rfl,rfl,rfl,by decide +kernel,rfl,by decide +kernel,by decide +kernel⟩
theorem ok_sho {f1:Addr}{fd1:FuncData} (t:Tx K mg "shown" sSho ["table"] f fd) (T:T K mg AL LN RU PL CO fE fH rR rP iR iP wP iC cH cE cT cW iX SE NG NN NO NR NL NS NT NX NV TM UL) (D_hands_in:Df P w K mg base (CX1 P w) 3 "hands_in" ["table"] (spHin K NT) f1 fd1) (D_CI:Md P w K mg base 4 ["self","many","rules"] (spCI P w K mg base fE fH RU CO NL) iC)
    (D_PI:Md P w K mg base 5 ["self","table"] (spPI K NT PL) iP) (D_CW:Md P w K mg base 4 ["self"] (spCW P w K mg base fE fH RU CO) cW) (D_PR:Md P w K mg base 1 ["self","group"] (spPR PL) rP) (D_PlW:Md P w K mg base 2 ["self"] (spPlW PL) wP):Df P w K mg base (CX1 P w) 7 "shown" ["table"] spSho f fd:=by
  refine t.df1 scSho (fun vs H Q E h=>?_) (fun cdv A outer s H vs Q E hr h=>?_)
  · obtain⟨l,m,ns,rfl,_⟩:=h
    rfl
  · obtain⟨l,m,ns,rfl,hl,sz,n60,m1,m6,k⟩:=h
    refine⟨_,(pss_one (ps_ret (pe_methX0 (k:=4) rais_def.toPass (pe_makeX rais_def.toPass T.kCO D_CI hr (by decide) (by rfl) T.mCO (pa_cons (pe_d1 rais_def.toPass D_hands_in hr (by decide) (by rfl) (pa_cons (pv 0) pa_nil)) (pa_cons (pe_lst (pa_cons (pe_makeX rais_def.toPass T.kPL D_PI hr (by decide) (by rfl) T.mPL (pa_cons (pv 0) pa_nil)) pa_nil)) pa_nil))) hr (by decide)))),?_⟩
    have hpos:0<2^m:=Nat.pow_pos (by decide)
    have h64:2^m≤64:=Nat.pow_le_pow_right (n:=2) (by decide) m6
    have hn:(0::ns).length=2^m:=by rw[List.length_cons];omega
    have ok:=tabB_ok hn m1 m6
    refine⟨_,rfl,l,_,rfl,hl,pl_ints,by rw[List.length_map];omega,fun no=>?_,fun m' h1 h6 hm' _ H1 s1=>?_⟩
    · rw[ok] at no
      cases no
    obtain rfl:m'=m:=by
      rw[List.length_map,hn] at hm'
      have inj:∀a b:_root_.Fin 7,2^a.1=2^b.1→b.1=a.1:=by decide
      exact inj ⟨m,by omega⟩ ⟨m',by omega⟩ hm'
    refine⟨_,rfl,fun x dx hx hd ne=>mk_plain hx hd ne (s1 _ _ hl) hn m1 m6 fun l' H2 hl' s2 hx2 hl2=>⟨rfl,(by show 1≤sizeLine;decide),fun p hp=>?_⟩⟩
    have u3:=Same.upd_new (o:=.lst [V.ref x]) hp
    have hx3:=u3 _ _ hx2
    have hl3:=u3 _ _ hl2
    have ro:RObj P w K mg base fE fH RU (upd H2 p (.lst [V.ref x])) x m' (fun g=>(0::ns).getD g 0):=plain_obj D_PR T.rPL hx3 hl3 hn m1 m6
    have wo:WObj P w K mg base (upd H2 p (.lst [V.ref x])) x (tabT ns):=w_plain T D_PlW hx3 hl3 (by omega) n60
    refine fun c dc hc hdc nc=>mk_comp (os:=[(x,m',fun g=>(0::ns).getD g 0)]) hc hdc nc upd_same (by show 1≤12;decide) (fun o ho=>by rw[List.mem_singleton.mp ho];exact ro) (fun o ho=>by rw[List.mem_singleton.mp ho]) m1 m6 fun lc H6 hlc s6 hc6 hlc6=>⟨rfl,?_⟩
    refine⟨c,CO,dc,_,cW,_,rfl,hc6,rfl,T.rCO.oc.cl,T.rCO.mw,⟨_,D_CW⟩,?_⟩
    refine⟨c,m',[(x,m',fun g=>(0::ns).getD g 0)],[tabT ns],rfl,⟨dc,lc,hc6,hlc6,(by show 1≤12;decide),m1,m6,fun o ho=>by rw[List.mem_singleton.mp ho];exact ro.same s6,fun o ho=>by rw[List.mem_singleton.mp ho]⟩,rfl,fun i o tx h1 h2=>?_,fun t ht=>?_,fun H7 s7=>k H7 ((s1.trans s2).trans (u3.trans (s6.trans s7)))⟩
    · cases i with
      | zero=>cases h1;cases h2;exact wo.same s6
      | succ i=>cases h1
    · rw[List.mem_singleton.mp ht]
      exact Nat.le_trans (tab_len2 (by omega) n60) (by decide)
def BadL (K:PySem.W.Frag) (H:Hp) (p:Addr) (xs:List V):Prop:=H p=some (.lst xs)∧(∀v∈xs,Pl K H v)∧xs.length≤1000∧tabB xs=false
theorem BadL.same {H H':Hp}{p:Addr}{xs:List V} (h:BadL K H p xs) (s:Same H H'):BadL K H' p xs:=⟨s _ _ h.1,fun v hv=>(h.2.1 v hv).same s,h.2.2⟩
def spBad1 (K:PySem.W.Frag) (NT:Addr):Sp:=fun vs H _ E=>∃(p:Addr) (xs:List V),vs=[.ref p]∧BadL K H p xs∧∀H',Same H H'→E (.ref NT) none H'
def spBad2 (K:PySem.W.Frag) (NT:Addr):Sp:=fun vs H _ E=>∃(p:Addr) (xs:List V) (u:V),vs=[.ref p,u]∧BadL K H p xs∧∀H',Same H H'→E (.ref NT) none H'
def spBadP (K:PySem.W.Frag) (NT:Addr):Sp:=fun vs H _ E=>∃(p q:Addr) (xs:List V) (m:Nat) (rs:List Int),(vs=[.ref p,.ref q]∨vs=[.ref q,.ref p])∧BadL K H p xs∧H q=some (.lst (rs.map V.int))∧TabN m rs∧∀H',Same H H'→E (.ref NT) none H'
theorem ok_smdB {f1:Addr}{fd1:FuncData} (t:Tx K mg "summed" sSmd ["one","other"] f fd) (T:T K mg AL LN RU PL CO fE fH rR rP iR iP wP iC cH cE cT cW iX SE NG NN NO NR NL NS NT NX NV TM UL) (D_hands_in:Df P w K mg base (CX1 P w) 3 "hands_in" ["table"] (spHin K NT) f1 fd1):Df P w K mg base (CX1 P w) 4 "summed" ["one","other"] (spBadP K NT) f fd:=by
  refine t.df1 scSmd (fun vs H Q E h=>?_) (fun cdv A outer s H vs Q E hr h=>?_)
  · obtain⟨p,q,xs,m,rs,rfl | rfl,_⟩:=h <;> rfl
  · obtain⟨p,q,xs,m,rs,e,b,hq,tb,k⟩:=h
    refine⟨_,(pss_cons (ps_if (pt_cmpR op_ne (pe_d1 rais_def.toPass D_hands_in hr (by decide) (by rfl) (pa_cons (pv 0) pa_nil)) (pe_d1 rais_def.toPass D_hands_in hr (by decide) (by rfl) (pa_cons (pv 1) pa_nil)) (nomark _)) (pss_one (ps_raise rais_def rfl (by rfl) T.mUL T.xUL (pa_cons pe_str pa_nil))) pss_nil)
      (pss_one (ps_ret (pe_comp (NB:=["first","second"]) (pick:=[none,none]) (blk_mk (by with_unfolding_all rfl) (by exact trivial) rfl (by decide +kernel) (by decide +kernel) (by rfl) (by rfl)) rfl
          (pi_zip (by rfl) T.b_zip (pa_cons (pv 0) (pa_cons (pv 1) pa_nil))) (fun _ _ _=>(show PG _ _ (gTup K 2 (gCons (gName 0) (gCons (gName 1) gNil))) from pg_tup rfl (pgs_cons (pg_name (i:=0) (show(["first","second"]:List Str).Nodup from by decide +kernel) rfl (Or.inl rfl)) (pgs_cons (pg_name (i:=1) (show(["first","second"]:List Str).Nodup from by decide +kernel) rfl (Or.inl rfl)) pgs_nil))))
          (fun _ _ _=>pif_nil) (fun _ _ _=>(pe_op op_add (pv 0) (pv 1))))))),?_⟩
    rcases e with rfl | rfl
    · exact⟨_,rfl,p,xs,rfl,b.1,b.2.1,b.2.2.1,fun _ H1 s1=>k H1 s1,fun m _ _ _ e=>(by rw[b.2.2.2] at e;cases e)⟩
    · have hp:=tb.pos
      refine⟨_,rfl,q,_,rfl,hq,pl_ints,(by rw[List.length_map];omega),(fun no=>by rw[tabB_of tb] at no;cases no),fun m' _ _ _ _ H1 s1=>?_⟩
      have b1:=b.same s1
      exact⟨_,rfl,p,xs,rfl,b1.1,b1.2.1,b1.2.2.1,fun _ H2 s2=>k H2 (s1.trans s2),fun m _ _ _ e=>(by rw[b1.2.2.2] at e;cases e)⟩
theorem ok_bsdB {f1:Addr}{fd1:FuncData} (t:Tx K mg "beside" sBsd ["one","other"] f fd) (T:T K mg AL LN RU PL CO fE fH rR rP iR iP wP iC cH cE cT cW iX SE NG NN NO NR NL NS NT NX NV TM UL) (D_hands_in:Df P w K mg base (CX1 P w) 3 "hands_in" ["table"] (spHin K NT) f1 fd1):Df P w K mg base (CX1 P w) 4 "beside" ["one","other"] (spBadP K NT) f fd:=by
  refine t.df1 scBsd (fun vs H Q E h=>?_) (fun cdv A outer s H vs Q E hr h=>?_)
  · obtain⟨p,q,xs,m,rs,rfl | rfl,_⟩:=h <;> rfl
  · obtain⟨p,q,xs,m,rs,e,b,hq,tb,k⟩:=h
    refine⟨_,(pss_cons (ps_if (pt_cmpR op_gt (pe_op op_add (pe_d1 rais_def.toPass D_hands_in hr (by decide) (by rfl) (pa_cons (pv 0) pa_nil)) (pe_d1 rais_def.toPass D_hands_in hr (by decide) (by rfl) (pa_cons (pv 1) pa_nil))) (pe_callB call_len_seq (by rfl) T.b_len bt_len (pa_cons (pe_glob (v:=.ref AL) (by rfl) T.mAL rfl) pa_nil)) (nomark _)) (pss_one (ps_raise rais_def rfl (by rfl) T.mTM T.xTM (pa_cons pe_str pa_nil))) pss_nil)
      (pss_cons (ps_set (i:=2) scBsd.nd rfl (by first | exact Or.inl rfl | exact Or.inr rfl) (pe_callB call_len_seq (by rfl) T.b_len bt_len (pa_cons (pv 0) pa_nil)))
      (pss_one (ps_ret (pe_comp (NB:=["group","long","one","other"]) (pick:=[none,some 2,some 0,some 1]) (blk_mk (by with_unfolding_all rfl) (by exact(And.intro rfl (And.intro rfl (And.intro rfl trivial)))) rfl (by decide +kernel) (by decide +kernel) (by rfl) (by rfl)) rfl
          (pi_range1 (by rfl) T.b_range (pa_cons (pe_op op_mul (pv 2) (pe_callB call_len_seq (by rfl) T.b_len bt_len (pa_cons (pv 1) pa_nil))) pa_nil)) (fun _ _ _=>pg_name (i:=0) (show(["group","long","one","other"]:List Str).Nodup from by decide +kernel) rfl (Or.inl rfl))
          (fun _ _ _=>pif_nil) (fun _ _ _=>(pe_op op_add (pe_ix (ix_listK K) (pv 2) (pe_op op_mod (pv 0) (pv 1)) (fun _ _=>rfl)) (pe_ix (ix_listK K) (pv 3) (pe_op op_fdiv (pv 0) (pv 1)) (fun _ _=>rfl))))))))),?_⟩
    rcases e with rfl | rfl
    · exact⟨_,rfl,p,xs,rfl,b.1,b.2.1,b.2.2.1,fun _ H1 s1=>k H1 s1,fun m _ _ _ e=>(by rw[b.2.2.2] at e;cases e)⟩
    · have hp:=tb.pos
      refine⟨_,rfl,q,_,rfl,hq,pl_ints,(by rw[List.length_map];omega),(fun no=>by rw[tabB_of tb] at no;cases no),fun m' _ _ _ _ H1 s1=>?_⟩
      have b1:=b.same s1
      exact⟨_,rfl,p,xs,rfl,b1.1,b1.2.1,b1.2.2.1,fun _ H2 s2=>k H2 (s1.trans s2),fun m _ _ _ e=>(by rw[b1.2.2.2] at e;cases e)⟩
theorem ok_csgB {f1 f2 f3:Addr}{fd1 fd2 fd3:FuncData} (t:Tx K mg "check_some_group" sCsg ["table","group"] f fd) (T:T K mg AL LN RU PL CO fE fH rR rP iR iP wP iC cH cE cT cW iX SE NG NN NO NR NL NS NT NX NV TM UL) (D_is_number_within:Df P w K mg base CX0 2 "is_number_within" ["thing","least","most"] (spWith K) f1 fd1)
    (D_hands_in:Df P w K mg base (CX1 P w) 3 "hands_in" ["table"] (spHin K NT) f2 fd2) (D_whole_company:Df P w K mg base CX0 1 "whole_company" ["many"] spWC f3 fd3):Df P w K mg base (CX1 P w) 4 "check_some_group" ["table","group"] (spBad2 K NT) f fd:=by
  refine t.df1 scCsg (fun vs H Q E h=>?_) (fun cdv A outer s H vs Q E hr h=>?_)
  · obtain⟨p,xs,u,rfl,_⟩:=h
    rfl
  · obtain⟨p,xs,u,rfl,b,k⟩:=h
    refine⟨_,(pss_one (ps_if (pt_not (pt_val (pe_d0 D_is_number_within hr (by decide) (by rfl) (pa_cons (pv 1) (pa_cons pe_int (pa_cons (pe_d0 D_whole_company hr (by decide) (by rfl) (pa_cons (pe_d1 rais_def.toPass D_hands_in hr (by decide) (by rfl) (pa_cons (pv 0) pa_nil)) pa_nil)) pa_nil)))))) (pss_one (ps_raise rais_def rfl (by rfl) T.mNG T.xNG (pa_cons pe_str pa_nil))) pss_nil)),?_⟩
    exact⟨_,rfl,_,rfl,p,xs,rfl,b.1,b.2.1,b.2.2.1,fun _ H1 s1=>k H1 s1,fun m _ _ _ e=>(by rw[b.2.2.2] at e;cases e)⟩
theorem ok_cutB {f1 f2:Addr}{fd1 fd2:FuncData}{spP:Sp} (t:Tx K mg "cut" sCut ["table","group"] f fd) (T:T K mg AL LN RU PL CO fE fH rR rP iR iP wP iC cH cE cT cW iX SE NG NN NO NR NL NS NT NX NV TM UL) (D_check_some_group:Df P w K mg base (CX1 P w) 4 "check_some_group" ["table","group"] (spBad2 K NT) f1 fd1) (D_parts_of:Df P w K mg base (CX1 P w) 4 "parts_of" ["group"] spP f2 fd2):Df P w K mg base (CX1 P w) 5 "cut" ["table","group"] (spBad2 K NT) f fd:=by
  refine t.df1 scCut (fun vs H Q E h=>?_) (fun cdv A outer s H vs Q E hr h=>?_)
  · obtain⟨p,xs,u,rfl,_⟩:=h
    rfl
  · obtain⟨p,xs,u,rfl,b,k⟩:=h
    refine⟨_,(pss_cons (ps_expr (pe_d1 rais_def.toPass D_check_some_group hr (by decide) (by rfl) (pa_cons (pv 0) (pa_cons (pv 1) pa_nil))))
      (pss_one (ps_ret (pe_comp (NB:=["part","table"]) (pick:=[none,some 0]) (blk_mk (by with_unfolding_all rfl) (by exact(And.intro rfl trivial)) rfl (by decide +kernel) (by decide +kernel) (by rfl) (by rfl)) rfl
          (pi_list (pe_d1 rais_def.toPass D_parts_of hr (by decide) (by rfl) (pa_cons (pv 1) pa_nil))) (fun _ _ _=>pg_name (i:=0) (show(["part","table"]:List Str).Nodup from by decide +kernel) rfl (Or.inl rfl))
          (fun _ _ _=>pif_nil) (fun _ _ _=>(pe_ix (ix_listK K) (pv 1) (pv 0) (fun _ _=>rfl))))))),?_⟩
    exact⟨_,rfl,_,rfl,p,xs,u,rfl,b,k⟩
theorem ok_mrgB {f1 f2 f3 f4 f5:Addr}{fd1 fd2 fd3 fd4 fd5:FuncData}{spP spH:Sp} (t:Tx K mg "merged" sMrg ["table","group"] f fd) (T:T K mg AL LN RU PL CO fE fH rR rP iR iP wP iC cH cE cT cW iX SE NG NN NO NR NL NS NT NX NV TM UL) (D_check_some_group:Df P w K mg base (CX1 P w) 4 "check_some_group" ["table","group"] (spBad2 K NT) f1 fd1) (D_parts_of:Df P w K mg base (CX1 P w) 4 "parts_of" ["group"] spP f2 fd2) (D_hands_of:Df P w K mg base (CX1 P w) 4 "hands_of" ["group"] spH f3 fd3)
    (D_hands_in:Df P w K mg base (CX1 P w) 3 "hands_in" ["table"] (spHin K NT) f4 fd4) (D_whole_company:Df P w K mg base CX0 1 "whole_company" ["many"] spWC f5 fd5):Df P w K mg base (CX1 P w) 5 "merged" ["table","group"] (spBad2 K NT) f fd:=by
  refine t.df1 scMrg (fun vs H Q E h=>?_) (fun cdv A outer s H vs Q E hr h=>?_)
  · obtain⟨p,xs,u,rfl,_⟩:=h
    rfl
  · obtain⟨p,xs,u,rfl,b,k⟩:=h
    refine⟨_,(pss_cons (ps_expr (pe_d1 rais_def.toPass D_check_some_group hr (by decide) (by rfl) (pa_cons (pv 0) (pa_cons (pv 1) pa_nil))))
      (pss_cons (ps_set (i:=2) scMrg.nd rfl (by first | exact Or.inl rfl | exact Or.inr rfl) (pe_ix ix_tup (pe_glob (v:=.ref AL) (by rfl) T.mAL rfl) (pe_ix ix_list (pe_d1 rais_def.toPass D_hands_of hr (by decide) (by rfl) (pa_cons (pv 1) pa_nil)) pe_int (fun _ _=>rfl)) (fun _ _=>rfl)))
      (pss_cons (ps_set (i:=3) scMrg.nd rfl (by first | exact Or.inl rfl | exact Or.inr rfl) (pe_op op_add (pe_op op_sub (pe_d0 D_whole_company hr (by decide) (by rfl) (pa_cons (pe_d1 rais_def.toPass D_hands_in hr (by decide) (by rfl) (pa_cons (pv 0) pa_nil)) pa_nil)) (pv 1)) (pv 2)))
      (pss_one (ps_ret (pe_comp (NB:=["part","group","least","table"]) (pick:=[none,some 1,some 2,some 0]) (blk_mk (by with_unfolding_all rfl) (by exact(And.intro rfl (And.intro rfl (And.intro rfl trivial)))) rfl (by decide +kernel) (by decide +kernel) (by rfl) (by rfl)) rfl
          (pi_list (pe_d1 rais_def.toPass D_parts_of hr (by decide) (by rfl) (pa_cons (pv 3) pa_nil))) (fun _ _ _=>pg_name (i:=0) (show(["part","group","least","table"]:List Str).Nodup from by decide +kernel) rfl (Or.inl rfl))
          (fun _ _ _=>pif_nil) (fun _ _ _=>(pe_ifExp (pt_cmpR op_ne (pe_op op_and (pv 0) (pv 2)) pe_int (nomark _)) (pe_ix (ix_listK K) (pv 3) (pe_op op_or (pv 0) (pv 1)) (fun _ _=>rfl)) (pe_ix (ix_listK K) (pv 3) (pv 0) (fun _ _=>rfl)))))))))),?_⟩
    exact⟨_,rfl,_,rfl,p,xs,u,rfl,b,k⟩
theorem ok_trdB {f1 f2:Addr}{fd1 fd2:FuncData} (t:Tx K mg "turned" sTrd ["table"] f fd) (T:T K mg AL LN RU PL CO fE fH rR rP iR iP wP iC cH cE cT cW iX SE NG NN NO NR NL NS NT NX NV TM UL) (D_hands_in:Df P w K mg base (CX1 P w) 3 "hands_in" ["table"] (spHin K NT) f1 fd1) (D_whole_company:Df P w K mg base CX0 1 "whole_company" ["many"] spWC f2 fd2):Df P w K mg base (CX1 P w) 4 "turned" ["table"] (spBad1 K NT) f fd:=by
  refine t.df1 scTrd (fun vs H Q E h=>?_) (fun cdv A outer s H vs Q E hr h=>?_)
  · obtain⟨p,xs,rfl,_⟩:=h
    rfl
  · obtain⟨p,xs,rfl,b,k⟩:=h
    refine⟨_,(pss_cons (ps_set (i:=1) scTrd.nd rfl (by first | exact Or.inl rfl | exact Or.inr rfl) (pe_d0 D_whole_company hr (by decide) (by rfl) (pa_cons (pe_d1 rais_def.toPass D_hands_in hr (by decide) (by rfl) (pa_cons (pv 0) pa_nil)) pa_nil)))
      (pss_one (ps_ret (pe_comp (NB:=["group","table","whole"]) (pick:=[none,some 0,some 1]) (blk_mk (by with_unfolding_all rfl) (by exact(And.intro rfl (And.intro rfl trivial))) rfl (by decide +kernel) (by decide +kernel) (by rfl) (by rfl)) rfl
          (pi_range1 (by rfl) T.b_range (pa_cons (pe_op op_add (pv 1) pe_int) pa_nil)) (fun _ _ _=>pg_name (i:=0) (show(["group","table","whole"]:List Str).Nodup from by decide +kernel) rfl (Or.inl rfl))
          (fun _ _ _=>pif_nil) (fun _ _ _=>(pe_op op_sub (pe_ix (ix_listK K) (pv 1) (pv 2) (fun _ _=>rfl)) (pe_ix (ix_listK K) (pv 1) (pe_op op_sub (pv 2) (pv 0)) (fun _ _=>rfl)))))))),?_⟩
    exact⟨_,rfl,p,xs,rfl,b.1,b.2.1,b.2.2.1,fun _ H1 s1=>k H1 s1,fun m _ _ _ e=>(by rw[b.2.2.2] at e;cases e)⟩
theorem ok_shoB {f1:Addr}{fd1:FuncData} (t:Tx K mg "shown" sSho ["table"] f fd) (T:T K mg AL LN RU PL CO fE fH rR rP iR iP wP iC cH cE cT cW iX SE NG NN NO NR NL NS NT NX NV TM UL) (D_hands_in:Df P w K mg base (CX1 P w) 3 "hands_in" ["table"] (spHin K NT) f1 fd1) (D_CI:Md P w K mg base 4 ["self","many","rules"] (spCI P w K mg base fE fH RU CO NL) iC)
    (D_PI:Md P w K mg base 5 ["self","table"] (spPI K NT PL) iP):Df P w K mg base (CX1 P w) 7 "shown" ["table"] (spBad1 K NT) f fd:=by
  refine t.df1 scSho (fun vs H Q E h=>?_) (fun cdv A outer s H vs Q E hr h=>?_)
  · obtain⟨p,xs,rfl,_⟩:=h
    rfl
  · obtain⟨p,xs,rfl,b,k⟩:=h
    refine⟨_,(pss_one (ps_ret (pe_methX0 (k:=4) rais_def.toPass (pe_makeX rais_def.toPass T.kCO D_CI hr (by decide) (by rfl) T.mCO (pa_cons (pe_d1 rais_def.toPass D_hands_in hr (by decide) (by rfl) (pa_cons (pv 0) pa_nil)) (pa_cons (pe_lst (pa_cons (pe_makeX rais_def.toPass T.kPL D_PI hr (by decide) (by rfl) T.mPL (pa_cons (pv 0) pa_nil)) pa_nil)) pa_nil))) hr (by decide)))),?_⟩
    exact⟨_,rfl,p,xs,rfl,b.1,b.2.1,b.2.2.1,fun _ H1 s1=>k H1 s1,fun m _ _ _ e=>(by rw[b.2.2.2] at e;cases e)⟩
def spTolB (K:PySem.W.Frag) (NT:Addr):Sp:=fun vs H _ E=>∃(w:Int) (p q:Addr) (xs:List V) (m:Nat) (rs:List Int) (u:V),vs=[.int w,.ref p,.ref q,u]∧BadL K H p xs∧H q=some (.lst (rs.map V.int))∧TabN m rs∧∀H',Same H H'→E (.ref NT) none H'
theorem scTol:FnScope ["_law_which","_law_table","_law_other","_law_group"] ["_law_which","_law_table","_law_other","_law_group"] (defScope sTol):=⟨rfl,rfl,rfl,by decide +kernel,rfl,by decide +kernel,by decide +kernel⟩
theorem ok_tolB {f0 f1 f2 f3 f4 f5:Addr}{fd0 fd1 fd2 fd3 fd4 fd5:FuncData} (t:Tx K mg "_law_told" sTol ["_law_which","_law_table","_law_other","_law_group"] f fd) (T:T K mg AL LN RU PL CO fE fH rR rP iR iP wP iC cH cE cT cW iX SE NG NN NO NR NL NS NT NX NV TM UL)
    (D_summed:Df P w K mg base (CX1 P w) 4 "summed" ["one","other"] (spBadP K NT) f0 fd0) (D_beside:Df P w K mg base (CX1 P w) 4 "beside" ["one","other"] (spBadP K NT) f1 fd1) (D_cut:Df P w K mg base (CX1 P w) 5 "cut" ["table","group"] (spBad2 K NT) f2 fd2)
    (D_merged:Df P w K mg base (CX1 P w) 5 "merged" ["table","group"] (spBad2 K NT) f3 fd3) (D_turned:Df P w K mg base (CX1 P w) 4 "turned" ["table"] (spBad1 K NT) f4 fd4) (D_shown:Df P w K mg base (CX1 P w) 7 "shown" ["table"] (spBad1 K NT) f5 fd5) :
    Df P w K mg base (CX1 P w) 8 "_law_told" ["_law_which","_law_table","_law_other","_law_group"] (spTolB K NT) f fd:=by
  refine t.df1 scTol (fun vs H Q E h=>?_) (fun cdv A outer s H vs Q E hr h=>?_)
  · obtain⟨w,p,q,xs,m,rs,u,rfl,_⟩:=h
    rfl
  · obtain⟨n,p,q,xs,m,rs,u,rfl,b,hq,tb,k⟩:=h
    refine⟨_,(pss_cons (ps_if (pt_cmpR op_eq (pv 0) pe_int (nomark _)) (pss_one (ps_ret (pe_d1 rais_def.toPass D_summed hr (by decide) (by rfl) (pa_cons (pv 1) (pa_cons (pv 2) pa_nil))))) pss_nil)
      (pss_cons (ps_if (pt_cmpR op_eq (pv 0) pe_int (nomark _)) (pss_one (ps_ret (pe_d1 rais_def.toPass D_summed hr (by decide) (by rfl) (pa_cons (pv 2) (pa_cons (pv 1) pa_nil))))) pss_nil)
      (pss_cons (ps_if (pt_cmpR op_eq (pv 0) pe_int (nomark _)) (pss_one (ps_ret (pe_d1 rais_def.toPass D_beside hr (by decide) (by rfl) (pa_cons (pv 1) (pa_cons (pv 2) pa_nil))))) pss_nil)
      (pss_cons (ps_if (pt_cmpR op_eq (pv 0) pe_int (nomark _)) (pss_one (ps_ret (pe_d1 rais_def.toPass D_beside hr (by decide) (by rfl) (pa_cons (pv 2) (pa_cons (pv 1) pa_nil))))) pss_nil)
      (pss_cons (ps_if (pt_cmpR op_eq (pv 0) pe_int (nomark _)) (pss_one (ps_ret (pe_d1 rais_def.toPass D_cut hr (by decide) (by rfl) (pa_cons (pv 1) (pa_cons (pv 3) pa_nil))))) pss_nil)
      (pss_cons (ps_if (pt_cmpR op_eq (pv 0) pe_int (nomark _)) (pss_one (ps_ret (pe_d1 rais_def.toPass D_merged hr (by decide) (by rfl) (pa_cons (pv 1) (pa_cons (pv 3) pa_nil))))) pss_nil)
      (pss_cons (ps_if (pt_cmpR op_eq (pv 0) pe_int (nomark _)) (pss_one (ps_ret (pe_d1 rais_def.toPass D_turned hr (by decide) (by rfl) (pa_cons (pv 1) pa_nil)))) pss_nil)
      (pss_one (ps_ret (pe_d1 rais_def.toPass D_shown hr (by decide) (by rfl) (pa_cons (pv 1) pa_nil))))))))))),?_⟩
    refine⟨_,rfl,rfl,_,rfl,ite2 (fun _=>⟨_,rfl,_,rfl,p,q,xs,m,rs,.inl rfl,b,hq,tb,k⟩) (fun _=>?_)⟩
    refine⟨_,rfl,rfl,_,rfl,ite2 (fun _=>⟨_,rfl,_,rfl,p,q,xs,m,rs,.inr rfl,b,hq,tb,k⟩) (fun _=>?_)⟩
    refine⟨_,rfl,rfl,_,rfl,ite2 (fun _=>⟨_,rfl,_,rfl,p,q,xs,m,rs,.inl rfl,b,hq,tb,k⟩) (fun _=>?_)⟩
    refine⟨_,rfl,rfl,_,rfl,ite2 (fun _=>⟨_,rfl,_,rfl,p,q,xs,m,rs,.inr rfl,b,hq,tb,k⟩) (fun _=>?_)⟩
    refine⟨_,rfl,rfl,_,rfl,ite2 (fun _=>⟨_,rfl,_,rfl,p,xs,u,rfl,b,k⟩) (fun _=>?_)⟩
    refine⟨_,rfl,rfl,_,rfl,ite2 (fun _=>⟨_,rfl,_,rfl,p,xs,u,rfl,b,k⟩) (fun _=>?_)⟩
    refine⟨_,rfl,rfl,_,rfl,ite2 (fun _=>⟨_,rfl,p,xs,rfl,b,k⟩) (fun _=>?_)⟩
    exact⟨_,rfl,p,xs,rfl,b,k⟩
def spRef (K:PySem.W.Frag):Sp:=fun vs H Q _=>∃(w:Int) (p q:Addr) (xs:List V) (m:Nat) (rs:List Int) (u:V),vs=[.int w,.ref p,.ref q,u]∧BadL K H p xs∧H q=some (.lst (rs.map V.int))∧TabN m rs∧∀H',Same H H'→Q (.bl true) H'
theorem scRef:FnScope ["_law_which","_law_table","_law_other","_law_group","_law_told_here","_law_wrong","error"] ["_law_which","_law_table","_law_other","_law_group"] (defScope sRef):=⟨rfl,rfl,rfl,by decide +kernel,rfl,by decide +kernel,by decide +kernel⟩
theorem ok_ref {f1:Addr}{fd1:FuncData} (t:Tx K mg "_law_refused" sRef ["_law_which","_law_table","_law_other","_law_group"] f fd) (T:T K mg AL LN RU PL CO fE fH rR rP iR iP wP iC cH cE cT cW iX SE NG NN NO NR NL NS NT NX NV TM UL) (D_law_told:Df P w K mg base (CX1 P w) 8 "_law_told" ["_law_which","_law_table","_law_other","_law_group"] (spTolB K NT) f1 fd1) :
    Df P w K mg base CX0 9 "_law_refused" ["_law_which","_law_table","_law_other","_law_group"] (spRef K) f fd:=by
  refine t.df0 scRef (fun vs H Q E h=>?_) (fun cdv A outer s H vs Q E hr h=>?_)
  · obtain⟨w,p,q,xs,m,rs,u,rfl,_⟩:=h
    rfl
  · obtain⟨n,p,q,xs,m,rs,u,rfl,b,hq,tb,k⟩:=h
    refine⟨_,(pss_cons (ps_set (i:=4) scRef.nd rfl (Or.inl rfl) pe_bl)
      (pss_cons (ps_set (i:=5) scRef.nd rfl (Or.inl rfl) pe_bl)
      (pss_cons (ps_try (i:=6) (tb:=fun Ex=>tDrop (tCallX (spTolB K NT) [] Ex (tCons (tVar 0) (tCons (tVar 1) (tCons (tVar 2) (tCons (tVar 3) tNil)))))) ⟨rfl,rfl,rfl⟩ rfl (fun pins Ex=>(pss_one (ps_expr (pe_d1 pass_try D_law_told hr (by decide) (by rfl) (pa_cons (pv 0) (pa_cons (pv 1) (pa_cons (pv 2) (pa_cons (pv 3) pa_nil)))))))) (by rfl) T.mSE T.cSE scRef.nd rfl rfl
        (fun e=>(pss_cons (ps_set (i:=4) scRef.nd rfl (Or.inl rfl) (pe_and (pe_callB (call_isiK K) (by rfl) T.b_isi bt_isi (pa_cons (pv 6) (pa_cons (pe_glob (v:=.ref NT) (by rfl) T.mNT rfl) pa_nil))) (pe_one (pe_callB (call_isiK K) (by rfl) T.b_isi bt_isi (pa_cons (pv 6) (pa_cons (pe_bltn (v:=.ty "ValueError") (by rfl) T.b_ve bt_ve rfl) pa_nil))))))
        (pss_cons (ps_set (i:=5) scRef.nd rfl (Or.inl rfl) (pe_callB (call_isiTK K) (by rfl) T.b_isi bt_isi (pa_cons (pv 6) (pa_cons (pe_tup (pa_cons (pe_glob (v:=.ref NG) (by rfl) T.mNG rfl) (pa_cons (pe_glob (v:=.ref NN) (by rfl) T.mNN rfl) (pa_cons (pe_glob (v:=.ref NO) (by rfl) T.mNO rfl) (pa_cons (pe_glob (v:=.ref NR) (by rfl) T.mNR rfl) (pa_cons (pe_glob (v:=.ref NL) (by rfl) T.mNL rfl) pa_nil)))))) pa_nil))))
        (pss_one (ps_set (i:=5) scRef.nd rfl (Or.inl rfl) (pe_or (pv 5) (pe_one (pe_callB (call_isiTK K) (by rfl) T.b_isi bt_isi (pa_cons (pv 6) (pa_cons (pe_tup (pa_cons (pe_glob (v:=.ref NS) (by rfl) T.mNS rfl) (pa_cons (pe_glob (v:=.ref NX) (by rfl) T.mNX rfl) (pa_cons (pe_glob (v:=.ref NV) (by rfl) T.mNV rfl) (pa_cons (pe_glob (v:=.ref TM) (by rfl) T.mTM rfl) (pa_cons (pe_glob (v:=.ref UL) (by rfl) T.mUL rfl) pa_nil)))))) pa_nil)))))))))))
      (pss_one (ps_ret (pe_and (pv 4) (pe_one (pe_not (pv 5))))))))),?_⟩
    refine⟨_,rfl,_,rfl,_,rfl,_,rfl,n,p,q,xs,m,rs,u,rfl,b,hq,tb,fun H1 s1=>⟨NT,rfl,T.up,fun e he=>?_⟩⟩
    have hE:upd H1 e (excO e NT) e=some (excO e NT):=upd_same
    have sE:Same H1 (upd H1 e (excO e NT)):=.upd_new he
    generalize upd H1 e (excO e NT)=H2 at hE sE
    refine⟨_,rfl,.ref e,.ref NT,_,_,_,rfl,rfl,.exc hE T.cNT,T.k1,_,rfl,?_⟩
    refine iteT ⟨_,rfl,.ref e,.ty "ValueError",_,_,_,rfl,rfl,.exc hE T.cNT,T.k2,?_⟩
    refine⟨_,rfl,by show 5≤sizeLine;decide,fun q hq=>?_⟩
    have s3:=Same.upd_new (o:=.tup [.ref NG,.ref NN,.ref NO,.ref NR,.ref NL]) hq
    refine⟨.ref e,q,_,_,_,_,rfl,upd_same,rfl,.exc (s3 _ _ hE) T.cNT,T.k3,?_⟩
    refine⟨_,rfl,_,rfl,iteF ⟨_,rfl,by show 5≤sizeLine;decide,fun p2 hp2=>?_⟩⟩
    have s4:=Same.upd_new (o:=.tup [.ref NS,.ref NX,.ref NV,.ref TM,.ref UL]) hp2
    refine⟨.ref e,p2,_,_,_,_,rfl,upd_same,rfl,.exc (s4 _ _ (s3 _ _ hE)) T.cNT,T.k4,?_⟩
    exact⟨_,rfl,_,rfl,iteT ⟨_,rfl,_,rfl,k _ (((s1.trans sE).trans s3).trans s4)⟩⟩
theorem rep_flat (m:Nat):(List.replicate (m:Int).toNat [V.int 0]).flatten=(List.replicate m (0:Int)).map V.int:=by
  rw[Int.toNat_natCast]
  induction m with
  | zero=>rfl
  | succ j ih=>rw[List.replicate_succ,List.flatten_cons,ih,List.replicate_succ,List.map_cons];rfl
theorem at_nat {rs:List Int}{j:Nat} (h:j<rs.length):atI (rs.map V.int) (j:Int)=some (.int (rs.getD j 0)):=atI_nat (by rw[List.getElem?_map,List.getD_eq_getElem?_getD,List.getElem?_eq_getElem h];rfl)
def Okx (K:PySem.W.Frag) (H:Hp) (v:V):Prop:=Pl K H v∧∃d,DatX K H v d∧d.depth≤2
theorem Okx.same {K:PySem.W.Frag}{H H':Hp}{v:V} (h:Okx K H v) (s:Same H H'):Okx K H' v:=⟨h.1.same s,h.2.imp fun d z=>⟨z.1.same s,z.2⟩⟩
theorem Okx.int {K:PySem.W.Frag}{H:Hp} (i:Int):Okx K H (.int i):=⟨.int _,_,.int i,by simp[PyData.depth]⟩
theorem datx_all {K:PySem.W.Frag}{H:Hp}:∀{xs:List V},(∀v∈xs,Okx K H v)→∃ds,DatXAll K H xs ds∧PyData.depthAll ds≤2
  | [],_=>⟨[],.nil,by simp[PyData.depthAll]⟩
  | x::xs,h=>by
    obtain⟨_,d,hd,hl⟩:=h x (List.mem_cons_self ..)
    obtain⟨ds,hds,hls⟩:=datx_all (xs:=xs) fun v hv=>h v (List.mem_cons_of_mem _ hv)
    refine⟨d::ds,.cons hd hds,?_⟩
    have e:PyData.depthAll (d::ds)=max (PyData.depth d) (PyData.depthAll ds):=rfl
    rw[e]
    omega
theorem okx_put {K:PySem.W.Frag}{H:Hp}{xs:List V}{y:V}{i j:Nat} (h:∀v∈xs,Okx K H v) (hy:Okx K H y):∀v∈xs.take i++[y]++xs.drop j,Okx K H v:=fun v hv=>by
  rcases List.mem_append.mp hv with z | z
  · rcases List.mem_append.mp z with z | z
    · exact h v (List.mem_of_mem_take z)
    · rw[List.mem_singleton] at z
      rw[z]
      exact hy
  · exact h v (List.mem_of_mem_drop z)
theorem str_okI (s:String):PyData.strOk (Str.ofString s)=true:=by
  unfold PyData.strOk
  rw[Str.ofString_eq_toList]
  simp only[List.all_toArray,List.all_map,List.all_eq_true]
  intro c _
  have h:=c.valid
  have e:c.toNat=c.val.toNat:=rfl
  rcases h with z | ⟨_,z⟩
  · simp only[Function.comp,decide_eq_true_eq]
    omega
  · simp only[Function.comp,decide_eq_true_eq]
    omega
def spCel (K:PySem.W.Frag):Sp:=fun vs H Q _=>∃(a:Addr) (ns:List Int) (k:Nat),vs=[.ref a,.int (k:Int)]∧SqL K H a (ns.map V.int)∧(∀i∈ns,Sm 1048577 i)∧k≤10000∧∀c:Int,Sm 1048577 c→Q (.int c) H
theorem scCel:FnScope ["_law_script","_law_k","_law_number"] ["_law_script","_law_k"] (defScope sCel):=⟨rfl,rfl,rfl,by decide +kernel,rfl,by decide +kernel,by decide +kernel⟩
theorem ok_cel (t:Tx K mg "_law_cell" sCel ["_law_script","_law_k"] f fd) (T:T K mg AL LN RU PL CO fE fH rR rP iR iP wP iC cH cE cT cW iX SE NG NN NO NR NL NS NT NX NV TM UL):Df P w K mg base CX0 1 "_law_cell" ["_law_script","_law_k"] (spCel K) f fd:=by
  refine t.df0 scCel (fun vs H Q E h=>?_) (fun cdv A outer s H vs Q E hr h=>?_)
  · obtain⟨a,ns,k,rfl,_⟩:=h
    rfl
  · obtain⟨a,ns,j,rfl,hq,hsm,hj,k⟩:=h
    refine⟨_,(pss_cons (ps_if (pt_cmpR op_lt (pv 1) (pe_callB call_len_seq (by rfl) T.b_len bt_len (pa_cons (pv 0) pa_nil)) (nomark _)) (pss_one (ps_ret (pe_ix ix_list (pv 0) (pv 1) (fun _ _=>rfl)))) pss_nil)
      (pss_cons (ps_set (i:=2) scCel.nd rfl (Or.inl rfl) (pe_op op_add (pe_op op_mul (pe_op op_mul (pv 1) (pv 1)) pe_int) pe_int))
      (pss_cons (ps_if (pt_cmpR op_gt (pe_callB call_len_seq (by rfl) T.b_len bt_len (pa_cons (pv 0) pa_nil)) pe_int (nomark _)) (pss_one (ps_set (i:=2) scCel.nd rfl (Or.inl rfl) (pe_op op_add (pv 2) (pe_op op_mul (pe_op op_mod (pe_ix ix_list (pv 0) (pe_op op_mod (pe_op op_mul (pv 1) pe_int) (pe_callB call_len_seq (by rfl) T.b_len bt_len (pa_cons (pv 0) pa_nil))) (fun _ _=>rfl)) pe_int) pe_int)))) pss_nil)
      (pss_one (ps_ret (pe_op op_mod (pe_op op_mul (pv 2) pe_int) pe_int)))))),?_⟩
    have hjj:(j:Int)*(j:Int)≤10000*10000:=Int.mul_le_mul (by omega) (by omega) (by omega) (by omega)
    have hj0:0≤(j:Int)*(j:Int):=Int.mul_nonneg (by omega) (by omega)
    refine⟨_,rfl,_,rfl,a,_,rfl,.inl hq,_,_,rfl,rfl,_,rfl,ite2 (fun h=>?_) (fun _=>?_)⟩
    · have hlt:j<ns.length:=by
        have z:=of_decide_eq_true h
        rw[List.length_map] at z
        omega
      have hat:atI (ns.map V.int) (j:Int)=some (.int ns[j]):=atI_nat (by rw[List.getElem?_map,List.getElem?_eq_getElem hlt];rfl)
      exact⟨_,rfl,_,rfl,a,_,_,_,rfl,rfl,hq,hat,k _ (hsm _ (List.getElem_mem hlt))⟩
    · refine⟨_,rfl,_,rfl,_,_,rfl,rfl,.inl ⟨by omega,by omega⟩,_,_,rfl,rfl,.inr ⟨by decide,by decide⟩,_,_,rfl,rfl,?_⟩
      dsimp only
      refine if_joinN (fun σ2 H2=>H2=H∧∃z:Int,σ2=[some (.ref a),some (.int (j:Int)),some (.int z)]) ?_ fun tail=>?_
      · rintro σ2 H2 ⟨rfl,z,rfl⟩
        exact⟨_,rfl,_,_,rfl,rfl,.inr ⟨by decide,by decide⟩,_,_,rfl,rfl,(by show(0:Int)<2147483647;decide),k _ (Sm.of 31 (by have z1:=Int.emod_nonneg (z*48271) (b:=2147483647) (by decide);have z2:=Int.emod_lt_of_pos (z*48271) (b:=2147483647) (by decide);have e:(2:Nat)^31=2147483648:=(by decide);rw[e];omega) (by decide))⟩
      · refine⟨_,rfl,a,_,rfl,.inl hq,_,_,rfl,rfl,_,rfl,ite2 (fun h2=>?_) (fun _=>tail _ _ ⟨rfl,_,rfl⟩)⟩
        have hpos:0<ns.length:=by
          have z:=of_decide_eq_true h2
          rw[List.length_map] at z
          omega
        have hlen:0<((ns.map V.int).length:Int):=by rw[List.length_map];omega
        obtain⟨x,hx,hxm⟩:=atI_in (xs:=ns.map V.int) (i:=(j:Int)*17%((ns.map V.int).length:Int)) (Int.emod_nonneg _ (by omega)) (Int.emod_lt_of_pos _ hlen)
        obtain⟨z,_,rfl⟩:=List.mem_map.mp hxm
        refine⟨_,rfl,_,rfl,_,rfl,_,_,rfl,rfl,.inr ⟨by decide,by decide⟩,_,rfl,a,_,rfl,.inl hq,_,_,rfl,rfl,hlen,a,_,_,_,rfl,rfl,hq,hx,_,_,rfl,rfl,(by show(0:Int)<2147483629;decide),_,_,rfl,rfl,.inr ⟨by decide,by decide⟩,_,_,rfl,rfl,?_⟩
        exact tail _ _ ⟨rfl,_,rfl⟩
def Own (S:List Int):Prop:=1≤S.length∧S.length≤6∧∀x∈S,x.natAbs≤10^40
def spNms (K:PySem.W.Frag):Sp:=fun vs H Q _=>∃(a:Addr) (ns:List Int),vs=[.ref a]∧SqL K H a (ns.map V.int)∧(∀i∈ns,Sm 1048577 i)∧∀(l:Addr) (S:List Int) H',H l=none→Same H H'→Own S→H' l=some (.lst (S.map V.int))→Q (.ref l) H'
theorem scNms:FnScope ["_law_script","_law_head","_law_some","_law_k","_law_cell_here"] ["_law_script"] (defScope sNms):=⟨rfl,rfl,rfl,by decide +kernel,rfl,by decide +kernel,by decide +kernel⟩
theorem ok_nms {f1:Addr}{fd1:FuncData} (t:Tx K mg "_law_numbers" sNms ["_law_script"] f fd) (T:T K mg AL LN RU PL CO fE fH rR rP iR iP wP iC cH cE cT cW iX SE NG NN NO NR NL NS NT NX NV TM UL) (D_law_cell:Df P w K mg base CX0 1 "_law_cell" ["_law_script","_law_k"] (spCel K) f1 fd1) :
    Df P w K mg base CX0 2 "_law_numbers" ["_law_script"] (spNms K) f fd:=by
  refine t.df0 scNms (fun vs H Q E h=>?_) (fun cdv A outer s H vs Q E hr h=>?_)
  · obtain⟨a,ns,rfl,_⟩:=h
    rfl
  · obtain⟨a,ns,rfl,hq,sm,k⟩:=h
    refine⟨_,(pss_cons (ps_set (i:=1) scNms.nd rfl (Or.inl rfl) (pe_op op_mod (pe_d0 D_law_cell hr (by decide) (by rfl) (pa_cons (pv 0) (pa_cons pe_int pa_nil))) pe_int))
      (pss_cons (ps_set (i:=2) scNms.nd rfl (Or.inl rfl) (pe_lst pa_nil))
      (pss_cons (ps_for PassesOwn.never rfl (pi_range1 (by rfl) T.b_range (pa_cons (pe_op op_add pe_int (pe_op op_mod (pv 1) pe_int)) pa_nil)) (pg_name (i:=3) scNms.nd rfl (Or.inl rfl))
        (pss_cons (ps_set (i:=4) scNms.nd rfl (Or.inl rfl) (pe_d0 D_law_cell hr (by decide) (by rfl) (pa_cons (pv 0) (pa_cons (pe_op op_add pe_int (pv 3)) pa_nil))))
        (pss_one (ps_if (pt_cmpR op_lt (pv 1) pe_int (nomark _)) (pss_one (ps_expr (pe_bm PySem.F.plainAttrs_list PySem.F.slot_list_append PySem.F.type_list_append mt_appendR (pv 2) (pa_cons (pe_op op_sub (pe_op op_mod (pv 4) pe_int) pe_int) pa_nil)))) (pss_one (ps_if (pt_cmpR op_lt (pv 1) pe_int (nomark _)) (pss_one (ps_expr (pe_bm PySem.F.plainAttrs_list PySem.F.slot_list_append PySem.F.type_list_append mt_appendR (pv 2) (pa_cons (pe_op op_sub (pe_op op_mod (pe_op op_mulB (pv 4) pe_int) (pe_op op_add (pe_op op_mulB pe_int (pe_op op_pow pe_int pe_int)) pe_int)) (pe_op op_pow pe_int pe_int)) pa_nil)))) (pss_one (ps_expr (pe_bm PySem.F.plainAttrs_list PySem.F.slot_list_append PySem.F.type_list_append mt_appendR (pv 2) (pa_cons (pe_op op_sub (pe_op op_mod (pe_op op_mulB (pv 4) pe_int) (pe_op op_add (pe_op op_mulB pe_int (pe_op op_pow pe_int pe_int)) pe_int)) (pe_op op_pow pe_int pe_int)) pa_nil))))))))))
      (pss_one (ps_ret (pv 2)))))),?_⟩
    refine⟨_,rfl,a,ns,0,rfl,hq,sm,by decide,fun c _=>⟨_,_,rfl,rfl,(by show(0:Int)<24;decide),?_⟩⟩
    obtain⟨hd,hhd⟩:∃hd:Int,c%24=hd:=⟨_,rfl⟩
    show gName 1 (V.int (c%24)) _ _ _
    rw[hhd]
    refine⟨by show 0≤sizeLine;decide,fun l hl=>?_⟩
    have u1:=Same.upd_new (o:=.lst []) hl
    obtain⟨n,hn,n1,n6⟩:∃n:Nat,1+hd%6=(n:Int)∧1≤n∧n≤6:=by
      have h0:=Int.emod_nonneg hd (b:=6) (by decide)
      have h1:=Int.emod_lt_of_pos hd (b:=6) (by decide)
      exact⟨(1+hd%6).toNat,by omega,by omega,by omega⟩
    refine⟨_,rfl,_,_,rfl,rfl,(by show(0:Int)<6;decide),_,_,rfl,rfl,(n:Int),(by show [V.int (1+hd%6)]=_;rw[hn]),by omega,by omega,?_⟩
    refine for_range (n:=n) (fun i σ' H'=>∃(S:List Int) (o3 o4:Option V),Same H H'∧H' l=some (.lst (S.map V.int))∧S.length=i∧(∀x∈S,x.natAbs≤10^40)∧σ'=[some (.ref a),some (.int hd),some (.ref l),o3,o4]) ⟨[],_,_,u1,upd_same,rfl,(fun x hx=>by cases hx),rfl⟩ ?_ ?_
    · rintro i σ' H5 hi ⟨S,o3,o4,s5,h5,hS,bS,rfl⟩
      have el:((2+i:Nat):Int)=2+(0+(i:Int)):=by omega
      refine⟨_,rfl,_,rfl,_,_,rfl,rfl,a,ns,2+i,(by rw[el];rfl),s5.seq hq,sm,by omega,fun d sd=>?_⟩
      have fin:∀y:Int,y.natAbs≤10^40→∃(S':List Int) (o3 o4:Option V),Same H (upd H5 l (.lst (S.map V.int++[V.int y])))∧upd H5 l (.lst (S.map V.int++[V.int y])) l=some (.lst (S'.map V.int))∧S'.length=i+1∧(∀x∈S',x.natAbs≤10^40)∧[some (.ref a),some (.int hd),some (.ref l),some (.int (0+(i:Int))),some (.int d)]=[some (.ref a),some (.int hd),some (.ref l),o3,o4]:=fun y y0=>by
        refine⟨S++[y],_,_,s5.upd_ne' hl,by rw[upd_same,List.map_append];rfl,by rw[List.length_append,hS];rfl,fun x hx=>?_,rfl⟩
        rcases List.mem_append.mp hx with z | z
        · exact bS x z
        · rw[List.mem_singleton] at z
          rw[z]
          exact y0
      have e40:(10:Nat)^40=10000000000000000000000000000000000000000:=by decide
      have e40':(10:Int)^40=10000000000000000000000000000000000000000:=by decide
      have e18':(10:Int)^18=1000000000000000000:=by decide
      refine⟨_,rfl,_,_,rfl,rfl,_,rfl,ite2 (fun _=>?_) (fun _=>?_)⟩
      · have h0:=Int.emod_nonneg d (b:=3) (by decide)
        have h1:=Int.emod_lt_of_pos d (b:=3) (by decide)
        exact⟨_,rfl,.inl ⟨rfl,_,SqL.of h5⟩,_,rfl,_,_,rfl,rfl,(by show(0:Int)<3;decide),_,_,rfl,rfl,l,_,_,rfl,rfl,h5,by rw[List.length_map];exact small1000 (by omega),fin _ (by rw[e40];omega)⟩
      refine⟨_,rfl,_,_,rfl,rfl,_,rfl,ite2 (fun _=>?_) (fun _=>?_)⟩
      · have h0:=Int.emod_nonneg (d*1236067977499789805) (b:=2*10^18+1) (by decide)
        have h1:=Int.emod_lt_of_pos (d*1236067977499789805) (b:=2*10^18+1) (by decide)
        refine⟨_,rfl,.inl ⟨rfl,_,SqL.of h5⟩,_,rfl,_,_,rfl,rfl,Sm.mb (m:=1048577) (n:=100) sd (by unfold Sm;decide) (by decide) (by decide),_,_,rfl,rfl,⟨by decide,by decide,by decide⟩,_,_,rfl,rfl,.inl (.inl ⟨by decide,by decide⟩),_,_,rfl,rfl,_,_,rfl,rfl,(by show(0:Int)<2*10^18+1;decide),_,_,rfl,rfl,⟨by decide,by decide,by decide⟩,_,_,rfl,rfl,l,_,_,rfl,rfl,h5,by rw[List.length_map];exact small1000 (by omega),fin _ ?_⟩
        show(d*1236067977499789805%(2*10^18+1)-10^18).natAbs≤10^40
        rw[e18'] at h0 h1⊢
        rw[e40]
        omega
      · have h0:=Int.emod_nonneg (d*12360679774997896964091736687312762354406) (b:=2*10^40+1) (by decide)
        have h1:=Int.emod_lt_of_pos (d*12360679774997896964091736687312762354406) (b:=2*10^40+1) (by decide)
        refine⟨_,rfl,.inl ⟨rfl,_,SqL.of h5⟩,_,rfl,_,_,rfl,rfl,Sm.mb (m:=1048577) (n:=140) sd (by unfold Sm;decide) (by decide) (by decide),_,_,rfl,rfl,⟨by decide,by decide,by decide⟩,_,_,rfl,rfl,.inl (.inl ⟨by decide,by decide⟩),_,_,rfl,rfl,_,_,rfl,rfl,(by show(0:Int)<2*10^40+1;decide),_,_,rfl,rfl,⟨by decide,by decide,by decide⟩,_,_,rfl,rfl,l,_,_,rfl,rfl,h5,by rw[List.length_map];exact small1000 (by omega),fin _ ?_⟩
        show(d*12360679774997896964091736687312762354406%(2*10^40+1)-10^40).natAbs≤10^40
        rw[e40'] at h0 h1⊢
        rw[e40]
        omega
    · rintro σ' H5 ⟨S,o3,o4,s5,h5,hS,bS,rfl⟩
      exact⟨_,rfl,k l S H5 hl s5 ⟨by omega,by omega,bS⟩ h5⟩
theorem bit_of (g i:Nat):Builtin.bitAnd ((g:Int)/2^i) 1=((g/2^i%2:Nat):Int):=by
  have e:(g:Int)/2^i=((g/2^i:Nat):Int):=by push_cast;rfl
  rw[e]
  show((g/2^i &&& 1:Nat):Int)=_
  rw[Nat.and_one_is_mod]
theorem toNat_z (i:Nat):(0+(i:Int)).toNat=i:=by omega
theorem bit_cases {g i:Nat}{b:Bool} (e:b=decide (V.int (Builtin.bitAnd ((g:Int)/2^(0+(i:Int)).toNat) 1)=V.int 1)):(b=true→g/2^i%2=1)∧(¬b=true→¬g/2^i%2=1):=by
  rw[toNat_z,bit_of] at e
  subst e
  constructor
  · intro h
    have:=V.int.inj (of_decide_eq_true h)
    omega
  · intro h z
    exact h (decide_eq_true (by rw[z];rfl))
def bsF (S:List Int) (g:Nat) (i:Nat):Option V:=if g/2^i%2=1 then some (.int (S.getD i 0)) else none
def bsL (S:List Int) (g:Nat):List Int:=((List.range S.length).filter fun i=>decide (g/2^i%2=1)).map fun i=>S.getD i 0
theorem bs_fm (S:List Int) (g:Nat):(List.range S.length).filterMap (bsF S g)=(bsL S g).map V.int:=by
  unfold bsL
  generalize List.range S.length=l
  induction l with
  | nil=>rfl
  | cons a r ih =>
    rw[List.filterMap_cons,List.filter_cons]
    by_cases h:g/2^a%2=1
    · have e:bsF S g a=some (.int (S.getD a 0)):=if_pos h
      rw[e,if_pos (decide_eq_true h),List.map_cons,List.map_cons,ih]
    · have e:bsF S g a=none:=if_neg h
      rw[e,if_neg (by simpa using h),ih]
def tabS (S:List Int):List Int:=(List.range (2^S.length)).map fun g=>(bsL S g).sum
def spSms (K:PySem.W.Frag):Sp:=fun vs H Q _=>∃(a:Addr) (S:List Int),vs=[.ref a]∧H a=some (.lst (S.map V.int))∧S.length≤6∧∀(l:Addr) H',H l=none→Same H H'→H' l=some (.lst ((tabS S).map V.int))→Q (.ref l) H'
theorem scSms:FnScope ["_law_some","_law_table","_law_group"] ["_law_some"] (defScope sSms):=⟨rfl,rfl,rfl,by decide +kernel,rfl,by decide +kernel,by decide +kernel⟩
theorem ok_sms (t:Tx K mg "_law_sums" sSms ["_law_some"] f fd) (T:T K mg AL LN RU PL CO fE fH rR rP iR iP wP iC cH cE cT cW iX SE NG NN NO NR NL NS NT NX NV TM UL):Df P w K mg base CX0 1 "_law_sums" ["_law_some"] (spSms K) f fd:=by
  refine t.df0 scSms (fun vs H Q E h=>?_) (fun cdv A outer s H vs Q E hr h=>?_)
  · obtain⟨a,S,rfl,_⟩:=h
    rfl
  · obtain⟨a,S,rfl,ha,h6,k⟩:=h
    have h64:2^S.length≤64:=pow6 h6
    have pp:0<2^S.length:=Nat.pow_pos (by decide)
    have el:(((S.map V.int).length:Nat):Int)=(S.length:Int):=by rw[List.length_map]
    refine⟨_,(pss_cons (ps_set (i:=1) scSms.nd rfl (Or.inl rfl) (pe_lst pa_nil))
      (pss_cons (ps_for PassesOwn.never rfl (pi_range1 (by rfl) T.b_range (pa_cons (pe_op op_shl pe_int (pe_callB call_len_seq (by rfl) T.b_len bt_len (pa_cons (pv 0) pa_nil))) pa_nil)) (pg_name (i:=2) scSms.nd rfl (by first | exact Or.inl rfl | exact Or.inr rfl))
        (pss_one (ps_expr (pe_bm PySem.F.plainAttrs_list PySem.F.slot_list_append PySem.F.type_list_append mt_appendR (pv 1) (pa_cons (pe_callB (call_sum rfl) (by rfl) T.b_sum bt_sum (pa_cons (pe_comp (NB:=["_law_k","_law_group","_law_some"]) (pick:=[none,some 2,some 0]) (blk_mk (by with_unfolding_all rfl) (by exact(And.intro rfl (And.intro rfl trivial))) rfl (by decide +kernel) (by decide +kernel) (by rfl) (by rfl)) rfl
          (pi_range1 (by rfl) T.b_range (pa_cons (pe_callB call_len_seq (by rfl) T.b_len bt_len (pa_cons (pv 0) pa_nil)) pa_nil)) (fun _ _ _=>pg_name (i:=0) (show(["_law_k","_law_group","_law_some"]:List Str).Nodup from by decide +kernel) rfl (Or.inl rfl))
          (fun _ _ _=>pif_one (pt_cmpR op_eq (pe_op op_and (pe_op op_shr (pv 1) (pv 0)) pe_int) pe_int (nomark _))) (fun _ _ _=>(pe_ix (ix_listK K) (pv 2) (pv 0) (fun _ _=>rfl)))) pa_nil)) pa_nil)))))
      (pss_one (ps_ret (pv 1))))),?_⟩
    refine⟨by show 0≤sizeLine;decide,fun l hl=>?_⟩
    have u1:=Same.upd_new (o:=.lst []) hl
    refine⟨_,rfl,a,_,rfl,.inl (SqL.of (u1 _ _ ha)),?_⟩
    rw[el]
    refine⟨_,_,rfl,rfl,⟨by omega,by omega,by decide⟩,((2^S.length:Nat):Int),(by show [V.int (1*2^(S.length:Int).toNat)]=_;rw[Int.toNat_natCast,Int.one_mul];push_cast;rfl),by omega,by omega,?_⟩
    refine for_range (n:=2^S.length) (fun i σ' H'=>∃(o2:Option V),Same H H'∧H' l=some (.lst (((List.range i).map fun g=>(bsL S g).sum).map V.int))∧σ'=[some (.ref a),some (.ref l),o2]) ⟨_,u1,upd_same,rfl⟩ ?_ ?_
    · rintro g σ' H5 hg ⟨o2,s5,h5,rfl⟩
      rw[Int.zero_add (g:Int)]
      refine⟨_,rfl,.inl ⟨rfl,_,SqL.of h5⟩,?_⟩
      refine⟨_,rfl,a,_,rfl,.inl (SqL.of (s5 _ _ ha)),?_⟩
      rw[el]
      refine⟨(S.length:Int),rfl,by omega,by omega,?_⟩
      refine comp_itrS (n:=S.length) (bsF S g) (Nat.le_of_lt (small1000 (by omega))) (fun i H2 kk kk0 s2 hi h1 h2=>?_) fun q hq=>?_
      · refine⟨_,rfl,_,rfl,_,_,rfl,rfl,(by show 0≤0+(i:Int);omega),_,_,rfl,rfl,rfl,_,rfl,?_⟩
        refine ite2 (fun h3=>?_) (fun h3=>h2 ?_)
        · refine⟨_,rfl,_,rfl,a,_,_,.int (S.getD i 0),rfl,rfl,SqL.of (s2 _ _ (s5 _ _ ha)),?_,h1 _ ?_⟩
          · rw[Int.zero_add]
            exact at_nat (by omega)
          · unfold bsF
            rw[if_pos ((bit_cases rfl).1 h3)]
        · unfold bsF
          exact if_neg ((bit_cases rfl).2 h3)
      · rw[bs_fm]
        have hn5:H5 q=none:=hq
        have nlq:l≠q:=ne_of_none h5 hq
        refine⟨q,_,rfl,.inl (SqL.of upd_same),l,_,_,rfl,rfl,(by rw[upd_ne nlq];exact h5),by rw[List.length_map,List.length_map,List.length_range];exact small1000 (by omega),_,(s5.trans (.upd_new hq)).upd_ne' hl,?_,rfl⟩
        rw[upd_same,List.range_succ,List.map_append,List.map_append]
        rfl
    · rintro σ' H5 ⟨o2,s5,h5,rfl⟩
      exact⟨_,rfl,k l H5 hl s5 h5⟩
def sB:List Int→Nat→Int
  | [],_=>0
  | x::S,g=>(if g%2=1 then x else 0)+sB S (g/2)
theorem fs_sum (p:Nat→Bool) (f:Nat→Int):∀l:List Nat,((l.filter p).map f).sum=(l.map fun i=>if p i=true then f i else 0).sum
  | []=>rfl
  | a::l=>by
    rw[List.filter_cons,List.map_cons,List.sum_cons]
    by_cases h:p a=true
    · rw[if_pos h,if_pos h,List.map_cons,List.sum_cons,fs_sum p f l]
    · rw[if_neg h,if_neg h,fs_sum p f l]
      omega
theorem bs_sB:∀(S:List Int) (g:Nat),(bsL S g).sum=sB S g
  | [],g=>rfl
  | x::S,g=>by
    have ih:=bs_sB S (g/2)
    unfold bsL at ih⊢
    rw[fs_sum] at ih⊢
    rw[List.length_cons,List.range_succ_eq_map,List.map_cons,List.sum_cons,List.map_map]
    show(if decide (g/2^0%2=1)=true then x else 0)+_=(if g%2=1 then x else 0)+sB S (g/2)
    rw[← ih,Nat.pow_zero,Nat.div_one]
    have e:((fun i=>if decide (g/2^i%2=1)=true then (x::S).getD i 0 else 0)∘Nat.succ)=fun i=>if decide (g/2/2^i%2=1)=true then S.getD i 0 else 0:=by
      funext i
      show(if decide (g/2^(i+1)%2=1)=true then (x::S).getD (i+1) 0 else 0)=_
      rw[Nat.pow_succ,Nat.mul_comm,← Nat.div_div_eq_div_mul]
      rfl
    rw[e]
    congr 1
    by_cases h:g%2=1
    · rw[if_pos h,if_pos (decide_eq_true h)]
    · rw[if_neg h,if_neg (by simpa using h)]
theorem sB_zero:∀S:List Int,sB S 0=0
  | []=>rfl
  | x::S=>by
    show(if 0%2=1 then x else 0)+sB S (0/2)=0
    rw[if_neg (by decide),Nat.zero_div,sB_zero S]
    rfl
theorem sB_comp:∀(S:List Int) (g:Nat),g<2^S.length→sB S (2^S.length-1-g)=sB S (2^S.length-1)-sB S g
  | [],g,_=>rfl
  | x::S,g,h=>by
    have hp:0<2^S.length:=Nat.pow_pos (by decide)
    have e:2^(x::S).length=2*2^S.length:=by rw[List.length_cons,Nat.pow_succ,Nat.mul_comm]
    rw[e] at h⊢
    have ih:=sB_comp S (g/2) (by omega)
    show(if (2*2^S.length-1-g)%2=1 then x else 0)+sB S ((2*2^S.length-1-g)/2)=((if (2*2^S.length-1)%2=1 then x else 0)+sB S ((2*2^S.length-1)/2))-((if g%2=1 then x else 0)+sB S (g/2))
    rw[show(2*2^S.length-1-g)/2=2^S.length-1-g/2 by omega,show(2*2^S.length-1)/2=2^S.length-1 by omega,ih,if_pos (show(2*2^S.length-1)%2=1 by omega)]
    by_cases z:g%2=1
    · rw[if_pos z,if_neg (by omega)]
      omega
    · rw[if_neg z,if_pos (by omega)]
      omega
theorem sB_app (y:Int):∀(S:List Int) (g:Nat),sB (S++[y]) g=sB S (g%2^S.length)+(if g/2^S.length%2=1 then y else 0)
  | [],g=>by
    show(if g%2=1 then y else 0)+0=0+(if g/2^0%2=1 then y else 0)
    rw[Nat.pow_zero,Nat.div_one]
    omega
  | x::S,g=>by
    have ih:=sB_app y S (g/2)
    show(if g%2=1 then x else 0)+sB (S++[y]) (g/2)=((if g%2^(S.length+1)%2=1 then x else 0)+sB S (g%2^(S.length+1)/2))+(if g/2^(S.length+1)%2=1 then y else 0)
    have e1:g%2^(S.length+1)%2=g%2:=by
      rw[Nat.pow_succ,Nat.mul_comm]
      exact Nat.mod_mul_right_mod g 2 _
    have e2:g%2^(S.length+1)/2=g/2%2^S.length:=by
      rw[Nat.pow_succ,Nat.mul_comm,Nat.mod_mul_right_div_self]
    have e3:g/2^(S.length+1)=g/2/2^S.length:=by
      rw[Nat.pow_succ,Nat.mul_comm,Nat.div_div_eq_div_mul]
    rw[ih,e1,e2,e3]
    omega
theorem sB_bound {B:Nat}:∀(S:List Int) (g:Nat),(∀x∈S,x.natAbs≤B)→(sB S g).natAbs≤B*S.length
  | [],_,_=>by show(0:Int).natAbs≤_;omega
  | x::S,g,h=>by
    have ih:=sB_bound S (g/2) fun y hy=>h y (List.mem_cons_of_mem _ hy)
    have hx:=h x List.mem_cons_self
    show((if g%2=1 then x else 0)+sB S (g/2)).natAbs≤B*(S.length+1)
    rw[Nat.mul_succ]
    split <;> omega
theorem tabS_eq (S:List Int):tabS S=(List.range (2^S.length)).map (sB S):=by
  unfold tabS
  exact List.map_congr_left fun g _=>bs_sB S g
theorem tabS_len (S:List Int):(tabS S).length=2^S.length:=by rw[tabS_eq,List.length_map,List.length_range]
theorem tabS_at {S:List Int}{g:Nat} (h:g<2^S.length):(tabS S).getD g 0=sB S g:=by
  rw[tabS_eq,List.getD_eq_getElem?_getD,List.getElem?_map,List.getElem?_range h]
  rfl
theorem tabS_tab {S:List Int} (h1:1≤S.length) (h6:S.length≤6):TabN S.length (tabS S):=by
  have hp:0<2^S.length:=Nat.pow_pos (by decide)
  refine⟨h1,h6,tabS_len S,?_⟩
  rw[tabS_eq,List.getElem?_map,List.getElem?_range hp]
  show some (sB S 0)=_
  rw[sB_zero]
theorem tabS_bound {S:List Int} (o:Own S):∀x∈tabS S,x.natAbs<10^60:=fun x hx=>by
  rw[tabS_eq] at hx
  obtain⟨g,_,rfl⟩:=List.mem_map.mp hx
  refine Nat.lt_of_le_of_lt (sB_bound S g o.2.2) (Nat.lt_of_le_of_lt (Nat.mul_le_mul_left _ o.2.1) (by decide +kernel))
def tlS (S:List Int):List Int:=(tabS S).drop 1
theorem tabS_cons {S:List Int}:tabS S=0::tlS S:=by
  have hp:0<2^S.length:=Nat.pow_pos (by decide)
  unfold tlS
  cases e:tabS S with
  | nil=>have:=tabS_len S;rw[e] at this;have this:0=2^S.length:=this;omega
  | cons a r =>
    have z:=tabS_at (S:=S) hp
    rw[e,sB_zero] at z
    rw[show a=0 from z]
    rfl
theorem tlS_len (S:List Int):(tlS S).length=2^S.length-1:=by
  unfold tlS
  rw[List.length_drop,tabS_len]
theorem tlS_bound {S:List Int} (o:Own S):∀x∈tlS S,x.natAbs<10^60:=fun x hx=>tabS_bound o x (List.mem_of_mem_drop hx)
theorem getD_ext {a b:List Int} (hl:a.length=b.length) (h:∀g,g<a.length→a.getD g 0=b.getD g 0):a=b:=by
  refine List.ext_getElem hl fun i h1 h2=>?_
  have z:=h i h1
  rw[List.getD_eq_getElem?_getD,List.getD_eq_getElem?_getD,List.getElem?_eq_getElem h1,List.getElem?_eq_getElem h2] at z
  exact z
theorem map_at {n g:Nat}{F:Nat→Int} (h:g<n):((List.range n).map F).getD g 0=F g:=by
  rw[List.getD_eq_getElem?_getD,List.getElem?_map,List.getElem?_range h]
  rfl
theorem sum_twice (rs:List Int):sumL rs rs=rs.map fun x=>2*x:=by
  refine getD_ext (by unfold sumL;rw[List.length_map,List.length_map,List.length_range]) fun g hg=>?_
  have hg':g<rs.length:=by unfold sumL at hg;rw[List.length_map,List.length_range] at hg;exact hg
  unfold sumL
  rw[map_at hg',List.getD_eq_getElem?_getD,List.getD_eq_getElem?_getD,List.getElem?_map,List.getElem?_eq_getElem hg']
  show rs[g]+rs[g]=2*rs[g]
  omega
theorem sum_nought (rs:List Int):sumL (List.replicate rs.length 0) rs=rs:=by
  refine getD_ext (by unfold sumL;rw[List.length_map,List.length_range,List.length_replicate]) fun g hg=>?_
  have hg':g<rs.length:=by unfold sumL at hg;rw[List.length_map,List.length_range,List.length_replicate] at hg;exact hg
  unfold sumL
  rw[map_at (by rw[List.length_replicate];exact hg')]
  rw[show(List.replicate rs.length (0:Int)).getD g 0=0 by rw[List.getD_eq_getElem?_getD,List.getElem?_replicate,if_pos hg'];rfl]
  omega
theorem turn_same (S:List Int):trnL (tabS S)=tabS S:=by
  have hl:=tabS_len S
  have hp:0<2^S.length:=Nat.pow_pos (by decide)
  refine getD_ext (by unfold trnL;rw[List.length_map,List.length_range]) fun g hg=>?_
  have hg':g<2^S.length:=by unfold trnL at hg;rw[List.length_map,List.length_range,hl] at hg;exact hg
  unfold trnL
  rw[hl,map_at hg',tabS_at (by omega),tabS_at (by omega),tabS_at hg',sB_comp S g hg']
  omega
theorem parts_whole:∀m:_root_.Fin 7,partsN (2^m.1-1)=(List.range (2^m.1)).map fun(i:Nat)=>(i:Int):=by decide +kernel
theorem cut_same {S:List Int} (h6:S.length≤6):cutL (tabS S) (2^S.length-1)=tabS S:=by
  unfold cutL
  rw[show partsN (2^S.length-1)=_ from parts_whole ⟨S.length,by omega⟩,List.map_map]
  refine getD_ext (by rw[List.length_map,List.length_range,tabS_len]) fun g hg=>?_
  rw[List.length_map,List.length_range] at hg
  exact(map_at (F:=(fun p:Int=>(tabS S).getD p.toNat 0)∘fun(i:Nat)=>(i:Int)) hg).trans rfl
theorem merge_whole:∀m:_root_.Fin 7,1≤m.1→((partsN (stayN m.1 (2^m.1-1))).map fun p=>mI (2^m.1-1) p.toNat)=[0,2^m.1-1]:=by decide +kernel
theorem merge_same {S:List Int} (h1:1≤S.length) (h6:S.length≤6):mrgL (tabS S) S.length (2^S.length-1)=[0,sB S (2^S.length-1)]:=by
  have hp:0<2^S.length:=Nat.pow_pos (by decide)
  have e:=merge_whole ⟨S.length,by omega⟩ h1
  have z:mrgL (tabS S) S.length (2^S.length-1)=((partsN (stayN S.length (2^S.length-1))).map fun p=>mI (2^S.length-1) p.toNat).map fun i=>(tabS S).getD i 0:=by
    unfold mrgL
    rw[List.map_map]
    rfl
  rw[z,show((partsN (stayN S.length (2^S.length-1))).map fun p=>mI (2^S.length-1) p.toNat)=_ from e]
  show [(tabS S).getD 0 0,(tabS S).getD (2^S.length-1) 0]=_
  rw[tabS_at hp,tabS_at (by omega),sB_zero]
theorem five_at:∀i:_root_.Fin 2,([0,5]:List Int).getD i.1 0=if i.1%2=1 then 5 else 0:=by decide
theorem beside_last (S:List Int):bsdL (tabS S) [0,5]=tabS (S++[5]):=by
  have hl:=tabS_len S
  have hp:0<2^S.length:=Nat.pow_pos (by decide)
  have l2:(S++[5]).length=S.length+1:=List.length_append
  have e2:2^(S++[5]).length=2^S.length*2:=by rw[l2,Nat.pow_succ]
  refine getD_ext (by unfold bsdL;rw[List.length_map,List.length_range,tabS_len,tabS_len,e2];rfl) fun g hg=>?_
  have hg':g<2^S.length*2:=by unfold bsdL at hg;rw[List.length_map,List.length_range,hl] at hg;exact hg
  have hd:g/2^S.length<2:=(Nat.div_lt_iff_lt_mul hp).mpr (by rw[Nat.mul_comm];exact hg')
  unfold bsdL
  rw[hl]
  rw[map_at (show g<2^S.length*([0,5]:List Int).length from hg'),tabS_at (Nat.mod_lt _ hp),tabS_at (by rw[e2];exact hg'),sB_app,five_at ⟨_,hd⟩]
theorem beside_first (S:List Int):bsdL [0,5] (tabS S)=tabS (5::S):=by
  have hl:=tabS_len S
  have e2:2^(5::S).length=2*2^S.length:=by rw[List.length_cons,Nat.pow_succ,Nat.mul_comm]
  refine getD_ext (by unfold bsdL;rw[List.length_map,List.length_range,tabS_len,tabS_len,e2];rfl) fun g hg=>?_
  have hg':g<2*2^S.length:=by unfold bsdL at hg;rw[List.length_map,List.length_range,hl] at hg;exact hg
  unfold bsdL
  rw[hl]
  rw[map_at (show g<([0,5]:List Int).length*2^S.length from hg')]
  show([0,5]:List Int).getD (g%2) 0+(tabS S).getD (g/2) 0=_
  rw[tabS_at (by omega),tabS_at (by rw[e2];exact hg'),five_at ⟨g%2,Nat.mod_lt _ (by decide)⟩]
  show(if g%2%2=1 then (5:Int) else 0)+_=(if g%2=1 then 5 else 0)+_
  rw[Nat.mod_mod]
theorem bad_len {xs:List V} (h:[2,4,8,16,32,64].contains xs.length=false):tabB xs=false:=by unfold tabB;rw[h];rfl
theorem bad_el {xs:List V}{y:V} (hy:y∈xs) (h:isI y=false):tabB xs=false:=by
  unfold tabB
  have e:xs.all isI=false:=by
    rw[List.all_eq_false]
    exact⟨y,hy,by rw[h];decide⟩
  rw[e,Bool.and_false]
  rfl
theorem bad_first {xs:List V} (h:xs[0]?≠some (.int 0)):tabB xs=false:=by
  unfold tabB
  rw[decide_eq_false h,Bool.and_false]
theorem len_less:∀m:_root_.Fin 7,1≤m.1→[2,4,8,16,32,64].contains (2^m.1-1)=false∧[2,4,8,16,32,64].contains (2^m.1+1)=false:=by decide +kernel
theorem cut_last (xs:List V):cutV xs none (some (-1))=xs.take (xs.length-1):=by
  unfold cutV
  rw[HT.sIx_none,List.drop_zero,Nat.sub_zero]
  congr 1
  unfold HT.sIx
  simp
  omega
theorem menu5 {K:PySem.W.Frag}{H:Hp}{b i:Int}{l1 l2:Addr}{bb:Bool} (h1:H l1=some (.lst [V.int b])) (h2:H l2=some (.tup [V.int b,V.int 1])) (i0:0≤i) (i5:i<5) :
    ∃v,atI [V.non,.bl bb,.str (toString b),.ref l1,.ref l2] i=some v∧Okx K H v∧isI v=false:=by
  obtain⟨v,hv,hm⟩:=atI_in (xs:=[V.non,.bl bb,.str (toString b),.ref l1,.ref l2]) i0 i5
  refine⟨v,hv,?_⟩
  simp only[List.mem_cons,List.not_mem_nil,or_false] at hm
  rcases hm with rfl | rfl | rfl | rfl | rfl
  · exact⟨⟨⟨_,.non,.non⟩,_,.non,by simp[PyData.depth]⟩,rfl⟩
  · exact⟨⟨⟨_,.bl _,.bl⟩,_,.bl _,by simp[PyData.depth]⟩,rfl⟩
  · exact⟨⟨⟨_,.str _,.str⟩,_,.str _ (str_okI _),by simp[PyData.depth]⟩,rfl⟩
  · exact⟨⟨⟨_,.lst h1,.lst⟩,_,.lst (SqL.of h1) (.cons (.int _) .nil),by simp[PyData.depth,PyData.depthAll]⟩,rfl⟩
  · exact⟨⟨⟨_,.tup h2,.tup⟩,_,.tup (SqT.of h2) (.cons (.int _) (.cons (.int _) .nil)),by simp[PyData.depth,PyData.depthAll]⟩,rfl⟩
theorem okx_int {K:PySem.W.Frag}{H:Hp}{rs:List Int}:∀v∈rs.map V.int,Okx K H v:=fun v hv=>by
  obtain⟨x,_,rfl⟩:=List.mem_map.mp hv
  exact .int x
def spNon (K:PySem.W.Frag):Sp:=fun vs H Q _=>∃(a p:Addr) (ns:List Int) (m:Nat) (rs:List Int),vs=[.ref a,.ref p]∧SqL K H a (ns.map V.int)∧(∀i∈ns,Sm 1048577 i)∧H p=some (.lst (rs.map V.int))∧TabN m rs∧(∀x∈rs,x.natAbs.log2<1920)∧∀(l:Addr) (xs:List V) H',H l=none→Same H H'→H' l=some (.lst xs)→xs.length≤1000→(∀v∈xs,Okx K H' v)→tabB xs=false→Q (.ref l) H'
theorem scNon:FnScope ["_law_script","_law_table","_law_way","_law_at","_law_strange"] ["_law_script","_law_table"] (defScope sNon):=⟨rfl,rfl,rfl,by decide +kernel,rfl,by decide +kernel,by decide +kernel⟩
theorem ok_non {f1:Addr}{fd1:FuncData} (t:Tx K mg "_law_none" sNon ["_law_script","_law_table"] f fd) (T:T K mg AL LN RU PL CO fE fH rR rP iR iP wP iC cH cE cT cW iX SE NG NN NO NR NL NS NT NX NV TM UL) (D_law_cell:Df P w K mg base CX0 1 "_law_cell" ["_law_script","_law_k"] (spCel K) f1 fd1) :
    Df P w K mg base CX0 2 "_law_none" ["_law_script","_law_table"] (spNon K) f fd:=by
  refine t.df0 scNon (fun vs H Q E h=>?_) (fun cdv A outer s H vs Q E hr h=>?_)
  · obtain⟨a,p,ns,m,rs,rfl,_⟩:=h
    rfl
  · obtain⟨a,p,ns,m,rs,rfl,hq,sm,hp,tb,lg,k⟩:=h
    have hps:=tb.pos
    have hm:=tb.2.2.1
    obtain⟨ll1,ll2⟩:=len_less ⟨m,by have:=tb.2.1;omega⟩ tb.1
    have ll1:[2,4,8,16,32,64].contains (2^m-1)=false:=ll1
    have ll2:[2,4,8,16,32,64].contains (2^m+1)=false:=ll2
    obtain⟨xs,hxs⟩:∃xs,rs.map V.int=xs:=⟨_,rfl⟩
    have hok:∀H',∀v∈xs,Okx K H' v:=by rw[← hxs];exact fun H'=>okx_int
    have xl:xs.length=2^m:=by rw[← hxs,List.length_map,hm]
    have hat:∀j:Nat,j<xs.length→∃b:Int,b∈rs∧atI xs (j:Int)=some (.int b):=fun j hj=>by
      rw[← hxs,List.length_map] at hj
      refine⟨rs[j],List.getElem_mem hj,?_⟩
      rw[← hxs]
      exact atI_nat (by rw[List.getElem?_map,List.getElem?_eq_getElem hj];rfl)
    have h64:xs.length≤64:=by rw[xl,← hm];exact hps.2
    have h2:2≤xs.length:=by rw[xl,← hm];exact hps.1
    rw[hxs] at hp
    have hlp:(0:Int)<(xs.length:Int):=by omega
    refine⟨_,(pss_cons (ps_set (i:=2) scNon.nd rfl (Or.inl rfl) (pe_op op_mod (pe_op op_mul (pe_op op_mod (pe_d0 D_law_cell hr (by decide) (by rfl) (pa_cons (pv 0) (pa_cons pe_int pa_nil))) pe_int) pe_int) pe_int))
      (pss_cons (ps_if (pt_cmpR op_eq (pe_op op_mod (pv 2) pe_int) pe_int (nomark _)) (pss_one (ps_ret (pe_slice sl_list (pv 1) po_none (po_some (pe_un un_neg pe_int))))) pss_nil)
      (pss_cons (ps_if (pt_cmpR op_eq (pe_op op_mod (pv 2) pe_int) pe_int (nomark _)) (pss_one (ps_ret (pe_op op_catQ (pv 1) (pe_lst (pa_cons (pe_op op_mod (pe_op op_fdiv (pv 2) pe_int) pe_int) pa_nil))))) pss_nil)
      (pss_cons (ps_if (pt_cmpR op_eq (pe_op op_mod (pv 2) pe_int) pe_int (nomark _)) (pss_one (ps_ret (pe_lst pa_nil))) pss_nil)
      (pss_cons (ps_if (pt_cmpR op_eq (pe_op op_mod (pv 2) pe_int) pe_int (nomark _)) (pss_one (ps_ret (pe_op op_rep (pe_lst (pa_cons pe_int pa_nil)) pe_int))) pss_nil)
      (pss_cons (ps_if (pt_cmpR op_eq (pe_op op_mod (pv 2) pe_int) pe_int (nomark _)) (pss_one (ps_ret (pe_op op_catQ (pe_lst (pa_cons (pe_op op_add pe_int (pe_op op_mod (pe_op op_fdiv (pv 2) pe_int) pe_int)) pa_nil)) (pe_slice sl_list (pv 1) (po_some pe_int) po_none)))) pss_nil)
      (pss_cons (ps_set (i:=3) scNon.nd rfl (Or.inl rfl) (pe_op op_mod (pe_op op_fdiv (pv 2) pe_int) (pe_callB call_len_seq (by rfl) T.b_len bt_len (pa_cons (pv 1) pa_nil))))
      (pss_cons (ps_set (i:=4) scNon.nd rfl (Or.inl rfl) (pe_lst (pa_cons pe_non (pa_cons (pe_cmpR op_gt (pe_ix ix_list (pv 1) (pv 3) (fun _ _=>rfl)) pe_int (nomark _)) (pa_cons (pe_callTy call_str_int (by rfl) T.b_str bt_str (pa_cons (pe_ix ix_list (pv 1) (pv 3) (fun _ _=>rfl)) pa_nil)) (pa_cons (pe_lst (pa_cons (pe_ix ix_list (pv 1) (pv 3) (fun _ _=>rfl)) pa_nil)) (pa_cons (pe_tup (pa_cons (pe_ix ix_list (pv 1) (pv 3) (fun _ _=>rfl)) (pa_cons pe_int pa_nil))) pa_nil)))))))
      (pss_one (ps_ret (pe_op op_catQ (pe_op op_catQ (pe_slice sl_list (pv 1) po_none (po_some (pv 3))) (pe_lst (pa_cons (pe_ix ix_list (pv 4) (pe_op op_sub (pe_op op_mod (pv 2) pe_int) pe_int) (fun _ _=>rfl)) pa_nil))) (pe_slice sl_list (pv 1) (po_some (pe_op op_add (pv 3) pe_int)) po_none)))))))))))),?_⟩
    refine⟨_,rfl,a,ns,1,rfl,hq,sm,by decide,fun c2 _=>⟨_,_,rfl,rfl,(by show(0:Int)<1000003;decide),_,_,rfl,rfl,.inr ⟨by decide,by decide⟩,_,_,rfl,rfl,(by show(0:Int)<2147483629;decide),?_⟩⟩
    obtain⟨v,hv⟩:∃v:Int,c2%1000003*48271%2147483629=v:=⟨_,rfl⟩
    show gName 2 (V.int (c2%1000003*48271%2147483629)) _ _ _
    rw[hv]
    refine⟨_,rfl,_,_,rfl,rfl,(by show(0:Int)<10;decide),rfl,_,rfl,ite2 (fun _=>?_) (fun e0=>?_)⟩
    · refine⟨_,rfl,_,rfl,_,rfl,p,_,rfl,SqL.of hp,fun a1 ha1=>?_⟩
      rw[show(-1:Int)=-1 from rfl,cut_last]
      exact k a1 _ _ ha1 (.upd_new ha1) upd_same (by rw[List.length_take];omega) (fun u hu=>hok _ u (List.mem_of_mem_take hu)) (bad_len (by rw[List.length_take,Nat.min_eq_left (by omega),xl];exact ll1))
    refine⟨_,rfl,_,_,rfl,rfl,(by show(0:Int)<10;decide),rfl,_,rfl,ite2 (fun _=>?_) (fun e1=>?_)⟩
    · refine⟨_,rfl,_,rfl,_,_,rfl,rfl,⟨by decide,by decide⟩,_,_,rfl,rfl,(by show(0:Int)<100;decide),by show 1≤sizeLine;decide,fun a2 ha2=>?_⟩
      have w2:=Same.upd_new (o:=.lst [V.int (v/10%100)]) ha2
      refine⟨p,a2,_,_,rfl,rfl,SqL.of (w2 _ _ hp),SqL.of upd_same,by exact Nat.le_of_lt (small1000 (by show _+1≤_;omega)),fun a5 ha5=>?_⟩
      have w5:=Same.upd_new (o:=.lst (xs++[V.int (v/10%100)])) ha5
      refine k a5 _ _ (w2.free ha5) (w2.trans w5) upd_same (by rw[List.length_append];show _+1≤_;omega) (fun u hu=>?_) (bad_len (by rw[List.length_append,xl];exact ll2))
      rcases List.mem_append.mp hu with z | z
      · exact hok _ u z
      · rw[List.mem_singleton] at z
        rw[z]
        exact .int _
    refine⟨_,rfl,_,_,rfl,rfl,(by show(0:Int)<10;decide),rfl,_,rfl,ite2 (fun _=>?_) (fun e2=>?_)⟩
    · exact⟨by show 0≤sizeLine;decide,fun a1 ha1=>k a1 [] _ ha1 (.upd_new ha1) upd_same (by decide) (fun u hu=>by cases hu) (by decide)⟩
    refine⟨_,rfl,_,_,rfl,rfl,(by show(0:Int)<10;decide),rfl,_,rfl,ite2 (fun _=>?_) (fun e3=>?_)⟩
    · refine⟨by show 1≤sizeLine;decide,fun a1 ha1=>⟨a1,128,[.int 0],rfl,rfl,upd_same,by decide,by decide,by show 1*128≤sizeLine;decide,fun a2 ha2=>?_⟩⟩
      have w1:=Same.upd_new (o:=.lst [V.int 0]) ha1
      rw[show(128:Int)=((128:Nat):Int) from rfl,rep_flat]
      exact k a2 _ _ (w1.free ha2) (w1.trans (.upd_new ha2)) upd_same (by rw[List.length_map,List.length_replicate];decide) okx_int (bad_len (by rw[List.length_map,List.length_replicate];decide))
    refine⟨_,rfl,_,_,rfl,rfl,(by show(0:Int)<10;decide),rfl,_,rfl,ite2 (fun _=>?_) (fun e4=>?_)⟩
    · refine⟨_,rfl,_,_,rfl,rfl,⟨by decide,by decide⟩,_,_,rfl,rfl,(by show(0:Int)<1000;decide),_,_,rfl,rfl,by show 1≤sizeLine;decide,fun a1 ha1=>?_⟩
      have w1:=Same.upd_new (o:=.lst [V.int (1+v/10%1000)]) ha1
      refine⟨_,rfl,_,rfl,p,_,rfl,SqL.of (w1 _ _ hp),fun a4 ha4=>?_⟩
      rw[show(1:Int)=((1:Nat):Int) from rfl,cut_lo]
      have w4:=Same.upd_new (o:=.lst (xs.drop 1)) ha4
      refine⟨a1,a4,_,_,rfl,rfl,SqL.of (w4 _ _ upd_same),SqL.of upd_same,by rw[List.length_drop];exact Nat.le_of_lt (small1000 (by show 1+_≤_;omega)),fun a5 ha5=>?_⟩
      refine k a5 _ _ ((w1.trans w4).free ha5) ((w1.trans w4).trans (.upd_new ha5)) upd_same (by rw[List.length_append,List.length_drop];show 1+_≤_;omega) (fun u hu=>?_) (bad_first ?_)
      · rcases List.mem_append.mp hu with z | z
        · rw[List.mem_singleton] at z
          rw[z]
          exact .int _
        · exact hok _ u (List.mem_of_mem_drop z)
      · show some (V.int (((1:Nat):Int)+v/10%1000))≠some (.int 0)
        intro e
        have e:=V.int.inj (Option.some.inj e)
        have:=Int.emod_nonneg (v/10) (b:=1000) (by decide)
        omega
    have z0:v%10≠0:=fun z=>e0 (decide_eq_true (by show V.int (v%10)=V.int 0;rw[z]))
    have z1:v%10≠1:=fun z=>e1 (decide_eq_true (by show V.int (v%10)=V.int 1;rw[z]))
    have z2:v%10≠2:=fun z=>e2 (decide_eq_true (by show V.int (v%10)=V.int 2;rw[z]))
    have z3:v%10≠3:=fun z=>e3 (decide_eq_true (by show V.int (v%10)=V.int 3;rw[z]))
    have z4:v%10≠4:=fun z=>e4 (decide_eq_true (by show V.int (v%10)=V.int 4;rw[z]))
    have y0:=Int.emod_nonneg v (b:=10) (by decide)
    have y1:=Int.emod_lt_of_pos v (b:=10) (by decide)
    refine⟨_,rfl,_,_,rfl,rfl,⟨by decide,by decide⟩,_,rfl,p,_,rfl,.inl (SqL.of hp),_,_,rfl,rfl,hlp,?_⟩
    obtain⟨j,hj,hjm⟩:∃j:Nat,v/10%(xs.length:Int)=(j:Int)∧j<xs.length:=by
      have i0:=Int.emod_nonneg (v/10) (b:=(xs.length:Int)) (by omega)
      have i1:=Int.emod_lt_of_pos (v/10) hlp
      exact⟨(v/10%(xs.length:Int)).toNat,by omega,by omega⟩
    show gName 3 (V.int (v/10%(xs.length:Int))) _ _ _
    rw[hj]
    obtain⟨b,hb,hbat⟩:=hat j hjm
    have ej1:(j:Int)+1=((j+1:Nat):Int):=by omega
    refine⟨_,rfl,_,rfl,p,_,_,_,rfl,rfl,SqL.of hp,hbat,_,_,rfl,rfl,_,rfl,_,rfl,p,_,_,_,rfl,rfl,SqL.of hp,hbat,_,rfl,lg b hb,_,rfl,_,rfl,p,_,_,_,rfl,rfl,SqL.of hp,hbat,by show 1≤sizeLine;decide,fun l1 hl1=>?_⟩
    have w1:=Same.upd_new (o:=.lst [V.int b]) hl1
    have k1:upd H l1 (.lst [V.int b]) l1=some (.lst [V.int b]):=upd_same
    generalize upd H l1 (.lst [V.int b])=H3 at w1 k1⊢
    refine⟨_,rfl,_,rfl,p,_,_,_,rfl,rfl,SqL.of (w1 _ _ hp),hbat,by show 2≤sizeLine;decide,fun l2 hl2=>?_⟩
    have w2:=Same.upd_new (o:=.tup [V.int b,V.int 1]) hl2
    have k2:upd H3 l2 (.tup [V.int b,V.int 1]) l2=some (.tup [V.int b,V.int 1]):=upd_same
    have k1:=w2 _ _ k1
    generalize upd H3 l2 (.tup [V.int b,V.int 1])=H4 at w2 k2 k1⊢
    refine⟨by show 5≤sizeLine;decide,fun lx hlx=>?_⟩
    have w3:=Same.upd_new (o:=.lst [V.non,.bl (decide (0<b)),.str (toString b),.ref l1,.ref l2]) hlx
    have k4:upd H4 lx (.lst [V.non,.bl (decide (0<b)),.str (toString b),.ref l1,.ref l2]) lx=some (.lst [V.non,.bl (decide (0<b)),.str (toString b),.ref l1,.ref l2]):=upd_same
    generalize upd H4 lx (.lst [V.non,.bl (decide (0<b)),.str (toString b),.ref l1,.ref l2])=HX at w3 k4⊢
    have wX:=w1.trans (w2.trans w3)
    have hpX:=wX _ _ hp
    obtain⟨y,hy,oky,noy⟩:=menu5 (K:=K) (b:=b) (i:=v%10-5) (bb:=decide (0<b)) (w3 _ _ k1) (w3 _ _ k2) (by omega) (by omega)
    clear w1 w2 w3 k1 k2
    refine⟨_,rfl,_,rfl,_,rfl,p,_,rfl,SqL.of hpX,fun a1 ha1=>?_⟩
    rw[cut_hi]
    have w1:=Same.upd_new (o:=.lst (xs.take j)) ha1
    have k1:upd HX a1 (.lst (xs.take j)) a1=some (.lst (xs.take j)):=upd_same
    generalize upd HX a1 (.lst (xs.take j))=H6 at w1 k1⊢
    refine⟨_,rfl,_,rfl,_,_,rfl,rfl,(by show(0:Int)<10;decide),_,_,rfl,rfl,lx,_,_,y,rfl,rfl,SqL.of (w1 _ _ k4),hy,by show 1≤sizeLine;decide,fun a2 ha2=>?_⟩
    have w2:=Same.upd_new (o:=.lst [y]) ha2
    have k2:upd H6 a2 (.lst [y]) a2=some (.lst [y]):=upd_same
    have k12:=w2 _ _ k1
    generalize upd H6 a2 (.lst [y])=H7 at w2 k2 k12⊢
    refine⟨a1,a2,_,_,rfl,rfl,SqL.of k12,SqL.of k2,by rw[List.length_take];exact Nat.le_of_lt (small1000 (by show _+1≤_;omega)),fun a3 ha3=>?_⟩
    have w3:=Same.upd_new (o:=.lst (xs.take j++[y])) ha3
    have k3:upd H7 a3 (.lst (xs.take j++[y])) a3=some (.lst (xs.take j++[y])):=upd_same
    generalize upd H7 a3 (.lst (xs.take j++[y]))=H8 at w3 k3⊢
    have w13:=w1.trans (w2.trans w3)
    refine⟨_,rfl,_,rfl,_,_,rfl,rfl,_,rfl,p,_,rfl,SqL.of (w13 _ _ hpX),fun a4 ha4=>?_⟩
    rw[ej1,cut_lo]
    have w4:=Same.upd_new (o:=.lst (xs.drop (j+1))) ha4
    have k44:upd H8 a4 (.lst (xs.drop (j+1))) a4=some (.lst (xs.drop (j+1))):=upd_same
    have k34:=w4 _ _ k3
    generalize upd H8 a4 (.lst (xs.drop (j+1)))=H9 at w4 k44 k34⊢
    refine⟨a3,a4,_,_,rfl,rfl,SqL.of k34,SqL.of k44,by rw[List.length_append,List.length_take,List.length_drop];exact Nat.le_of_lt (small1000 (by show _+1+_≤_;omega)),fun a5 ha5=>?_⟩
    have w5:=Same.upd_new (o:=.lst (xs.take j++[y]++xs.drop (j+1))) ha5
    have k5:upd H9 a5 (.lst (xs.take j++[y]++xs.drop (j+1))) a5=some (.lst (xs.take j++[y]++xs.drop (j+1))):=upd_same
    have fr:HX a5=none:=(w13.trans w4).free ha5
    have w15:=w13.trans (w4.trans w5)
    generalize upd H9 a5 (.lst (xs.take j++[y]++xs.drop (j+1)))=H10 at w5 k5 w15⊢
    exact k a5 _ H10 (wX.free fr) (wX.trans w15) k5 (by rw[List.length_append,List.length_append,List.length_take,List.length_drop];show _+1+_≤_;omega) (okx_put (hok _) (oky.same w15)) (bad_el (y:=y) (List.mem_append_left _ (List.mem_append_right _ (List.mem_cons_self ..))) noy)
theorem join_two (y a b:Str):Txt.join y [a,b]=a++y++b:=by
  rw[show Txt.join y [a,b]=Str.join y [a,b] from StrLaws.glued_eq_join _ _]
  rfl
theorem join_one (y a:Str):Txt.join y [a]=a:=by
  rw[show Txt.join y [a]=Str.join y [a] from StrLaws.glued_eq_join _ _]
  rfl
theorem join_next (y a b:Str) (r:List Str):Txt.join y (a::b::r)=a++y++Txt.join y (b::r):=by
  rw[show Txt.join y (a::b::r)=Str.join y (a::b::r) from StrLaws.glued_eq_join _ _,show Txt.join y (b::r)=Str.join y (b::r) from StrLaws.glued_eq_join _ _]
  rfl
theorem words_eq {m:Nat}{ns:List Int} (h:ns≠[]):Txt.join ("; ":Str) [Str.empty++("hands ":Str)++nW (m:Int)]++("; table ":Str)++Txt.join (" ":Str) (ns.map nW)=cwT m [tabT ns]:=by
  unfold cwT tabT wdT
  rw[join_one,join_two]
  cases ns with
  | nil=>exact absurd rfl h
  | cons a r =>
    rw[List.map_cons,join_next]
    refine str_ext ?_
    simp only[Str.cps_append,Array.toList_append,List.append_assoc]
    rfl
def spWds (K:PySem.W.Frag):Sp:=fun vs H Q _=>∃(l:Addr) (m:Nat) (ns:List Int),vs=[.ref l]∧H l=some (.lst ((0::ns).map V.int))∧ns.length=2^m-1∧(∀n∈ns,n.natAbs<10^60)∧1≤m∧m≤6∧∀H',Same H H'→Q (.str (cwT m [tabT ns])) H'
theorem scWds:FnScope ["_law_table"] ["_law_table"] (defScope sWds):=⟨rfl,rfl,rfl,by decide +kernel,rfl,by decide +kernel,by decide +kernel⟩
theorem ok_wds (t:Tx K mg "_law_words" sWds ["_law_table"] f fd) (T:T K mg AL LN RU PL CO fE fH rR rP iR iP wP iC cH cE cT cW iX SE NG NN NO NR NL NS NT NX NV TM UL):Df P w K mg base CX0 1 "_law_words" ["_law_table"] (spWds K) f fd:=by
  refine t.df0 scWds (fun vs H Q E h=>?_) (fun cdv A outer s H vs Q E hr h=>?_)
  · obtain⟨l,m,ns,rfl,_⟩:=h
    rfl
  · obtain⟨l,m,ns,rfl,hl,sz,n60,m1,m6,k⟩:=h
    refine⟨_,(pss_one (ps_ret (pe_op op_add_str (pe_op op_add_str (pe_bm PySem.F.plainAttrs_str PySem.F.slot_str_join PySem.F.type_str_join mt_joinR pe_str (pa_cons (pe_comp (NB:=["_law_k","_law_table"]) (pick:=[none,some 0]) (blk_mk (by with_unfolding_all rfl) (by exact(And.intro rfl trivial)) rfl (by decide +kernel) (by decide +kernel) (by rfl) (by rfl)) rfl
          (pi_range2 (by rfl) T.b_range (pa_cons pe_int (pa_cons pe_int pa_nil))) (fun _ _ _=>pg_name (i:=0) (show(["_law_k","_law_table"]:List Str).Nodup from by decide +kernel) rfl (Or.inl rfl))
          (fun _ _ _=>pif_one (pt_cmpR op_eq (pe_op op_shl pe_int (pv 0)) (pe_callB (call_lenK K) (by rfl) T.b_len bt_len (pa_cons (pv 1) pa_nil)) (nomark _))) (fun _ _ _=>(pe_fs (pj_cons pe_str (pj_cons (pe_fv (pv 0)) pj_nil))))) pa_nil)) pe_str) (pe_bm PySem.F.plainAttrs_str PySem.F.slot_str_join PySem.F.type_str_join mt_joinR pe_str (pa_cons (pe_comp (NB:=["_law_number"]) (pick:=[none]) (blk_mk (by with_unfolding_all rfl) (by exact trivial) rfl (by decide +kernel) (by decide +kernel) (by rfl) (by rfl)) rfl
          (pi_list (pe_slice sl_list (pv 0) (po_some pe_int) po_none)) (fun _ _ _=>pg_name (i:=0) (show(["_law_number"]:List Str).Nodup from by decide +kernel) rfl (Or.inl rfl))
          (fun _ _ _=>pif_nil) (fun _ _ _=>(pe_callTy call_str_int (by rfl) T.b_str bt_str (pa_cons (pv 0) pa_nil)))) pa_nil))))),?_⟩
    have hpos:0<2^m:=Nat.pow_pos (by decide)
    have h64:2^m≤64:=Nat.pow_le_pow_right (n:=2) (by decide) m6
    have hn:((0::ns).map V.int).length=2^m:=by rw[List.length_map,List.length_cons];omega
    have lg:∀n∈ns,n.natAbs.log2<1920:=fun n h=>log_lt (n60 n h)
    refine⟨rfl,1,7,rfl,⟨by decide,by decide,by decide,by decide⟩,?_⟩
    refine comp_rng (lo:=1) (n:=6) (fun i=>if i+1=m then some (.str (Str.empty++("hands ":Str)++nW (m:Int))) else none) (by decide) (fun i H2 kk kk0 s2 hi g1 g2=>?_) fun D H2 hD s2 hd=>?_
    · have e1:(1:Int)+(i:Int)=((i+1:Nat):Int):=by push_cast;omega
      rw[e1]
      have hi6:(((i+1:Nat):Int)).natAbs<10^60:=Nat.lt_of_le_of_lt (show(((i+1:Nat):Int)).natAbs≤6 by omega) (by decide +kernel)
      have ln:=nW_len hi6
      have e6:(Str.empty++("hands ":Str)).length=6:=rfl
      have lt:(Str.empty++("hands ":Str)++nW ((i+1:Nat):Int)).length≤sizeLine:=by
        rw[Str.length_append,e6]
        exact Nat.le_trans (Nat.add_le_add_left ln 6) (by decide)
      refine⟨_,rfl,_,_,rfl,rfl,⟨by omega,by omega,by decide⟩,_,rfl,l,_,rfl,.inl (SqL.of (s2 _ _ hl)),rfl,_,rfl,?_⟩
      rw[hn]
      dsimp only
      have hsame:∀a b:_root_.Fin 7,decide (V.int (1*2^((a.1:Nat):Int).toNat)=V.int ((2^b.1:Nat):Int))=decide (a.1=b.1):=by decide +kernel
      have hc:=hsame ⟨i+1,by omega⟩ ⟨m,by omega⟩
      rw[show decide (V.int (1*2^((i+1:Nat):Int).toNat)=V.int ((2^m:Nat):Int))=decide (i+1=m) from hc]
      by_cases z:i+1=m
      · rw[decide_eq_true z]
        refine iteT ⟨_,rfl,by decide,_,rfl,_,rfl,log_lt hi6,nW _,rfl,lt,lt,g1 _ ?_ _ (.refl _)⟩
        rw[if_pos z,z]
      · rw[decide_eq_false z]
        exact iteF (g2 (if_neg z) _ (.refl _))
    have ed:(List.range 6).filterMap (fun i=>if i+1=m then some (V.str (Str.empty++("hands ":Str)++nW (m:Int))) else none)=[Str.empty++("hands ":Str)++nW (m:Int)].map V.str:=by
      generalize (Str.empty++("hands ":Str)++nW (m:Int))=X
      have hm:m=1∨m=2∨m=3∨m=4∨m=5∨m=6:=by omega
      rcases hm with rfl | rfl | rfl | rfl | rfl | rfl <;> rfl
    rw[ed] at hd
    have lm:=nW_len (i:=(m:Int)) (Nat.lt_of_le_of_lt (show(m:Int).natAbs≤6 by omega) (by decide +kernel))
    have e6:(Str.empty++("hands ":Str)).length=6:=rfl
    have e8:("; table ":Str).length=8:=rfl
    have lx:(Str.empty++("hands ":Str)++nW (m:Int)).length≤67:=by rw[Str.length_append,e6];omega
    have sz9:∀{n:Nat},n≤100000→n≤sizeLine:=fun h=>Nat.le_trans h (by decide)
    refine⟨_,D,_,rfl,rfl,SqL.of hd,(by show(Str.empty++("hands ":Str)++nW (m:Int)).length+0+1*2≤16777216;omega),_,_,rfl,rfl,?_,?_⟩
    · rw[join_one,e8]
      exact sz9 (by omega)
    refine⟨rfl,_,rfl,1,rfl,l,_,rfl,SqL.of (s2 _ _ hl),fun lq hlq=>?_⟩
    have ec:cutV ((0::ns).map V.int) (some 1) none=ns.map V.int:=cut_lo ((0::ns).map V.int) 1
    rw[ec]
    have u3:=Same.upd_new (o:=.lst (ns.map V.int)) hlq
    refine⟨lq,rfl,⟨_,SqL.of upd_same⟩,?_⟩
    refine comp_lst (xs:=ns.map V.int) (fun i _=>(ns[i]?).map fun n=>V.str (nW n)) (SqL.of upd_same) (by rw[List.length_map];exact Nat.le_of_lt (small1000 (by omega))) (fun i x H4 kk kk0 s4 hx g1 g2=>?_) fun D4 H4 hD4 s4 hd4=>?_
    · rw[List.getElem?_map] at hx
      cases e:ns[i]? with
      | none=>rw[e] at hx;cases hx
      | some n =>
        rw[e] at hx
        cases hx
        exact⟨_,rfl,n,rfl,lg n (List.mem_of_getElem? e),g1 _ (by rw[e];rfl) _ (.refl _)⟩
    have e4:((List.range (ns.map V.int).length).filterMap fun i=>((ns.map V.int)[i]?).bind fun _=>(ns[i]?).map fun n=>V.str (nW n))=(ns.map nW).map V.str:=by
      rw[List.length_map]
      refine Eq.trans (fm_congr (g:=fun i=>(ns[i]?).bind fun n=>some (V.str (nW n))) fun i hi=>?_) ?_
      · rw[List.getElem?_map]
        cases ns[i]? <;> rfl
      · rw[fm_bind,List.filterMap_eq_map',List.map_map]
        rfl
    rw[e4] at hd4
    have a:=sum_len (nW_all n60)
    have al:(ns.map nW).length≤63:=by rw[List.length_map];omega
    have a:=Nat.le_trans a (Nat.mul_le_mul_left 185 al)
    have e1:(" ":Str).length=1:=rfl
    have jl:(Txt.join (" ":Str) (ns.map nW)).length≤20000:=by
      rw[show Txt.join (" ":Str) (ns.map nW)=Str.join (" ":Str) (ns.map nW) from StrLaws.glued_eq_join _ _]
      refine Nat.le_trans (StrLaws.join_length_le _ _) ?_
      rw[e1]
      omega
    refine⟨_,D4,_,rfl,rfl,SqL.of hd4,(by rw[e1];omega),_,_,rfl,rfl,?_,?_⟩
    · rw[Str.length_append,join_one,e8]
      exact sz9 (by omega)
    rw[words_eq (by intro z;rw[z] at sz;have sz:0=2^m-1:=sz;have:=Nat.pow_le_pow_right (n:=2) (by decide) m1;omega)]
    exact k _ (s2.trans (u3.trans s4))
def spAga:Sp:=fun vs H Q _=>∃(l:Addr) (m:Nat) (ns:List Int),vs=[.ref l,.str (cwT m [tabT ns])]∧H l=some (.lst ((0::ns).map V.int))∧ns.length=2^m-1∧(∀n∈ns,n.natAbs<10^60)∧1≤m∧m≤6∧∀H',Same H H'→Q (.bl true) H'
theorem scAga:FnScope ["_law_table","_law_words_here","_law_long","_law_told_here","error"] ["_law_table","_law_words_here"] (defScope sAga):=⟨rfl,rfl,rfl,by decide +kernel,rfl,by decide +kernel,by decide +kernel⟩
theorem ok_aga {f1:Addr}{fd1:FuncData} (t:Tx K mg "_law_again" sAga ["_law_table","_law_words_here"] f fd) (T:T K mg AL LN RU PL CO fE fH rR rP iR iP wP iC cH cE cT cW iX SE NG NN NO NR NL NS NT NX NV TM UL) (D_read:Df P w K mg base (CX2 P w) 9 "read" ["text"] (spRea P w K mg base fE fH RU CO NX PL) f1 fd1) (D_CT:Md P w K mg base 9 ["self"] (spCT P w K mg base fE fH RU CO) cT) :
    Df P w K mg base CX0 10 "_law_again" ["_law_table","_law_words_here"] spAga f fd:=by
  refine t.df0 scAga (fun vs H Q E h=>?_) (fun cdv A outer s H vs Q E hr h=>?_)
  · obtain⟨l,m,ns,rfl,_⟩:=h
    rfl
  · obtain⟨l,m,ns,rfl,hl,sz,n60,m1,m6,k⟩:=h
    refine⟨_,(pss_cons (ps_setC (NB:=["_law_number"]) (pick:=[none]) (i:=2) scAga.nd rfl (Or.inl rfl) (by rfl) (blk_mk (by with_unfolding_all rfl) (by exact trivial) rfl (by decide +kernel) (by decide +kernel) (by rfl) (by rfl)) rfl
          (pi_list (pv 0)) (fun _ _ _=>pg_name (i:=0) (show(["_law_number"]:List Str).Nodup from by decide +kernel) rfl (Or.inl rfl))
          (fun _ _ _=>pif_one (pt_cmpR op_ge (pe_callB call_abs (by rfl) T.b_abs bt_abs (pa_cons (pv 0) pa_nil)) (pe_op op_pow pe_int pe_int) (nomark _))) (fun _ _ _=>(pv 0)))
      (pss_cons (ps_if (pt_cmpR (op_eqL hr.units) (pv 2) (pe_lst pa_nil) (nomark _)) (pss_one (ps_ret (pe_cmpR (op_eqL hr.units) (pe_methX0 (k:=9) pass_no (pe_d2 passD_no D_read hr (by decide) (by rfl) (pa_cons (pv 1) pa_nil)) hr (by decide)) (pv 0) (nomark _)))) pss_nil)
      (pss_cons (ps_set (i:=3) scAga.nd rfl (Or.inl rfl) pe_non)
      (pss_cons (ps_tryD (i:=4) (tb:=fun Ex=>tDrop (tCallD (spRea P w K mg base fE fH RU CO NX PL) Ex (tCons (tVar 1) tNil))) ⟨rfl,rfl,rfl⟩ rfl (fun pins Ex=>(pss_one (ps_expr (pe_d2 pass_tryD D_read hr (by decide) (by rfl) (pa_cons (pv 1) pa_nil))))) (by rfl) T.mNX T.cNX scAga.nd rfl rfl
        (fun e=>(pss_one (ps_set (i:=3) scAga.nd rfl (Or.inl rfl) (pe_exA K (pv 4))))))
      (pss_one (ps_ret (pe_cmpR op_eq (pv 3) pe_int (nomark _)))))))),?_⟩
    have hpos:0<2^m:=Nat.pow_pos (by decide)
    have h64:2^m≤64:=Nat.pow_le_pow_right (n:=2) (by decide) m6
    have rl:(0::ns).length=2^m:=by rw[List.length_cons];omega
    obtain⟨rs,hrs⟩:∃rs:List Int,rs=0::ns:=⟨_,rfl⟩
    have rl':rs.length≤64:=by rw[hrs,rl];exact h64
    have ra:rs.all okT=ns.all okT:=by rw[hrs,List.all_cons];show(okT 0&&_)=_;rw[show okT 0=true by decide,Bool.true_and]
    rw[← hrs] at hl
    have e30:(10:Nat)^30=1000000000000000000000000000000:=by decide
    refine⟨_,rfl,l,rfl,⟨_,SqL.of hl⟩,?_⟩
    refine comp_lst (xs:=rs.map V.int) (fun i _=>(rs[i]?).bind fun n=>if okT n=true then none else some (.int n)) (SqL.of hl) (by rw[List.length_map];exact Nat.le_of_lt (small1000 (by omega))) (fun i x H4 kk kk0 s4 hx g1 g2=>?_) fun D H2 hD s2 hd=>?_
    · rw[List.getElem?_map] at hx
      cases e:rs[i]? with
      | none=>rw[e] at hx;cases hx
      | some n =>
        rw[e] at hx
        cases hx
        refine⟨_,rfl,n,rfl,_,_,rfl,rfl,⟨by decide,by decide,by decide⟩,_,_,rfl,rfl,_,rfl,?_⟩
        have ed:decide ((10:Int)^(30:Int).toNat≤if n<0 then -n else n) = !(okT n):=by
          unfold okT
          have e3:(10:Int)^(30:Int).toNat=1000000000000000000000000000000:=by decide
          rw[e30,e3]
          by_cases z:n.natAbs<1000000000000000000000000000000
          · rw[decide_eq_true z,decide_eq_false (by split <;> omega)]
            rfl
          · rw[decide_eq_false z,decide_eq_true (by split <;> omega)]
            rfl
        show if decide ((10:Int)^(30:Int).toNat≤if n<0 then -n else n)=true then _ else _
        rw[ed]
        cases o:okT n with
        | true=>exact iteF (g2 (by rw[e];show(if okT n=true then none else _)=_;rw[o];rfl) _ (.refl _))
        | false=>exact iteT ⟨_,rfl,g1 _ (by rw[e];show(if okT n=true then none else _)=_;rw[o];rfl) _ (.refl _)⟩
    have ed:((List.range (rs.map V.int).length).filterMap fun i=>((rs.map V.int)[i]?).bind fun _=>(rs[i]?).bind fun n=>if okT n=true then none else some (V.int n))=(rs.filter fun n=>!(okT n)).map V.int:=by
      rw[List.length_map]
      refine Eq.trans (fm_congr (g:=fun i=>(rs[i]?).bind fun n=>if okT n=true then none else some (V.int n)) fun i hi=>?_) ?_
      · rw[List.getElem?_map]
        cases rs[i]? <;> rfl
      · rw[fm_bind]
        clear hl hrs rl' ra hd
        induction rs with
        | nil=>rfl
        | cons a r ih =>
          rw[List.filterMap_cons,List.filter_cons]
          cases o:okT a with
          | true=>exact ih
          | false =>
            show V.int a::_=_
            rw[ih]
            rfl
    rw[ed] at hd
    refine st_lit (σ':=[some (.ref l),some (.str (cwT m [tabT ns])),some (.ref D),none,none]) rfl ?_
    refine⟨_,rfl,by show 0≤sizeLine;decide,fun le hle=>?_⟩
    have u3:=Same.upd_new (o:=.lst []) hle
    refine⟨D,le,_,[],rfl,rfl,SqL.of (u3 _ _ hd),SqL.of upd_same,_,rfl,?_⟩
    have s3:Same H (upd H2 le (.lst [])):=s2.trans u3
    generalize upd H2 le (.lst [])=H3 at s3⊢
    dsimp only[id]
    have hl3:=s3 _ _ hl
    have edec:decide ((rs.filter fun n=>!(okT n))=[])=ns.all okT:=by
      rw[← ra]
      cases o:rs.all okT with
      | true=>exact decide_eq_true (List.filter_eq_nil_iff.mpr fun n hn=>by rw[List.all_eq_true.mp o n hn];decide)
      | false =>
        obtain⟨n,hn,z⟩:=List.all_eq_false.mp o
        refine decide_eq_false fun e=>?_
        have:=List.filter_eq_nil_iff.mp e n hn
        rw[show okT n=false by simpa using z] at this
        exact this rfl
    rw[edec]
    cases ok:ns.all okT with
    | true =>
      refine iteT ?_
      refine⟨_,rfl,m,ns,rfl,sz,n60,m1,m6,(fun _ c H4 s4 co=>?_),fun no=>(by rw[ok] at no;cases no)⟩
      obtain⟨x,⟨dx,lc,h1,h2,h3,h4,h5,h6,h7⟩,wo⟩:=co
      refine⟨c,CO,dx,_,cT,_,rfl,h1,rfl,T.rCO.oc.cl,T.rCO.mt,⟨_,D_CT⟩,?_⟩
      refine⟨c,m,_,rfl,⟨dx,lc,h1,h2,h3,h4,h5,h6,h7⟩,fun D5 H5 hD5 s5 hd5=>?_⟩
      refine⟨_,rfl,D5,l,_,rs,rfl,rfl,SqL.of hd5,SqL.of (s5 _ _ (s4 _ _ hl3)),?_⟩
      have et:tabC m [(x,m,fun g=>(0::ns).getD g 0)]=rs:=by
        rw[hrs]
        refine getD_ext (by unfold tabC;rw[List.length_map,List.length_range,rl]) fun g hg=>?_
        unfold tabC at hg⊢
        rw[List.length_map,List.length_range] at hg
        rw[map_at hg]
        show(0::ns).getD g 0+0=_
        omega
      rw[et,decide_eq_true rfl]
      exact k _ ((s3.trans s4).trans s5)
    | false =>
      refine iteF ?_
      refine⟨_,rfl,m,ns,rfl,sz,n60,m1,m6,fun yes=>(by rw[ok] at yes;cases yes),fun _ d H4 s4 hd4=>⟨d,rfl,NX,rfl,T.uNX,fun e he=>?_⟩⟩
      have ne:d≠e:=(ne_of_none hd4 he)
      refine⟨_,rfl,e,NX,d,_,1,rfl,upd_same,(by rw[upd_ne ne];exact hd4),T.cNX,T.iNX.hd,T.pNX,rfl,?_⟩
      exact⟨_,rfl,rfl,k _ ((s3.trans s4).trans (.upd_new he))⟩
theorem log_tab {S:List Int} (o:Own S):∀x∈tabS S,x.natAbs.log2<1920:=fun x hx=>log_lt (tabS_bound o x hx)
theorem tab07:TabN 1 [0,7]:=⟨by decide,by decide,rfl,rfl⟩
theorem tab05:TabN 1 [0,5]:=⟨by decide,by decide,rfl,rfl⟩
theorem tab64:TabN 6 (List.replicate 64 0):=⟨by decide,by decide,by rw[List.length_replicate],rfl⟩
theorem tabZ {m:Nat}{rs:List Int} (t:TabN m rs):TabN m (List.replicate rs.length 0):=⟨t.1,t.2.1,by rw[List.length_replicate];exact t.2.2.1,by
  have:=t.pos
  rw[List.getElem?_replicate,if_pos (by omega)]⟩
def spLaw (K:PySem.W.Frag):Sp:=fun vs H Q _=>∃(a:Addr) (ns:List Int),vs=[.ref a]∧SqL K H a (ns.map V.int)∧ns.length≤63∧(∀i∈ns,Sm 1048577 i)∧∀H',Q (.bl true) H'
theorem scLaw:FnScope ["_law_script","_law_some","_law_table","_law_none_here","_law_kept","_law_other","_law_group","_law_which","_law_twice","_law_last","_law_words_here"] ["_law_script"] (defScope sLaw):=⟨rfl,rfl,rfl,by decide +kernel,rfl,by decide +kernel,by decide +kernel⟩
theorem ok_law {f1 f2 f3 f4 f5 f6 f7 f8 f9 g1 g2 g3 g4:Addr}{fd1 fd2 fd3 fd4 fd5 fd6 fd7 fd8 fd9 gd1 gd2 gd3 gd4:FuncData} (t:Tx K mg "law" sLaw ["_law_script"] f fd) (T:T K mg AL LN RU PL CO fE fH rR rP iR iP wP iC cH cE cT cW iX SE NG NN NO NR NL NS NT NX NV TM UL)
    (D_law_cell:Df P w K mg base CX0 1 "_law_cell" ["_law_script","_law_k"] (spCel K) f1 fd1) (D_law_numbers:Df P w K mg base CX0 2 "_law_numbers" ["_law_script"] (spNms K) f2 fd2)
    (D_law_sums:Df P w K mg base CX0 1 "_law_sums" ["_law_some"] (spSms K) f3 fd3) (D_law_none:Df P w K mg base CX0 2 "_law_none" ["_law_script","_law_table"] (spNon K) f4 fd4)
    (D_law_refused:Df P w K mg base CX0 9 "_law_refused" ["_law_which","_law_table","_law_other","_law_group"] (spRef K) f5 fd5) (D_summed:Df P w K mg base (CX1 P w) 4 "summed" ["one","other"] (spSmd K UL) f6 fd6) (D_turned:Df P w K mg base (CX1 P w) 4 "turned" ["table"] (spTrd K) f7 fd7)
    (D_cut:Df P w K mg base (CX1 P w) 5 "cut" ["table","group"] (spCut K NG) f8 fd8) (D_merged:Df P w K mg base (CX1 P w) 5 "merged" ["table","group"] (spMrg K NG) f9 fd9) (D_law_words:Df P w K mg base CX0 1 "_law_words" ["_law_table"] (spWds K) g1 gd1)
    (D_shown:Df P w K mg base (CX1 P w) 7 "shown" ["table"] spSho g2 gd2) (D_law_again:Df P w K mg base CX0 10 "_law_again" ["_law_table","_law_words_here"] spAga g3 gd3) (D_beside:Df P w K mg base (CX1 P w) 4 "beside" ["one","other"] (spBsd K TM) g4 gd4)
    (D_CI:Md P w K mg base 4 ["self","many","rules"] (spCI P w K mg base fE fH RU CO NL) iC) (D_PI:Md P w K mg base 5 ["self","table"] (spPI K NT PL) iP) (D_CW:Md P w K mg base 4 ["self"] (spCW P w K mg base fE fH RU CO) cW) (D_PR:Md P w K mg base 1 ["self","group"] (spPR PL) rP) (D_PlW:Md P w K mg base 2 ["self"] (spPlW PL) wP) :
    Df P w K mg base CX0 11 "law" ["_law_script"] (spLaw K) f fd:=by
  refine t.df0 scLaw (fun vs H Q E h=>?_) (fun cdv A outer s H vs Q E hr h=>?_)
  · obtain⟨a,ns,rfl,_⟩:=h
    rfl
  · obtain⟨a,ns,rfl,hq,hns,sm,k⟩:=h
    refine⟨_,(pss_cons (ps_set (i:=1) scLaw.nd rfl (Or.inl rfl) (pe_d0 D_law_numbers hr (by decide) (by rfl) (pa_cons (pv 0) pa_nil)))
      (pss_cons (ps_set (i:=2) scLaw.nd rfl (by first | exact Or.inl rfl | exact Or.inr rfl) (pe_d0 D_law_sums hr (by decide) (by rfl) (pa_cons (pv 1) pa_nil)))
      (pss_cons (ps_set (i:=3) scLaw.nd rfl (Or.inl rfl) (pe_d0 D_law_none hr (by decide) (by rfl) (pa_cons (pv 0) (pa_cons (pv 2) pa_nil))))
      (pss_cons (ps_set (i:=4) scLaw.nd rfl (Or.inl rfl) (pe_callTy call_list_of (by rfl) T.b_list bt_list (pa_cons (pv 3) pa_nil)))
      (pss_cons (ps_set (i:=5) scLaw.nd rfl (Or.inl rfl) (pe_ix ix_list (pe_lst (pa_cons (pe_lst (pa_cons pe_int (pa_cons pe_int pa_nil))) (pa_cons (pe_op op_rep (pe_lst (pa_cons pe_int pa_nil)) pe_int) (pa_cons (pe_callTy call_list_of (by rfl) T.b_list bt_list (pa_cons (pv 2) pa_nil)) pa_nil)))) (pe_op op_mod (pe_d0 D_law_cell hr (by decide) (by rfl) (pa_cons (pv 0) (pa_cons pe_int pa_nil))) pe_int) (fun _ _=>rfl)))
      (pss_cons (ps_set (i:=6) scLaw.nd rfl (Or.inl rfl) (pe_ix ix_list (pe_lst (pa_cons pe_int (pa_cons pe_int (pa_cons (pe_un un_neg pe_int) (pa_cons pe_int (pa_cons (pe_op op_sub (pe_callB call_len_seq (by rfl) T.b_len bt_len (pa_cons (pv 2) pa_nil)) pe_int) pa_nil)))))) (pe_op op_mod (pe_d0 D_law_cell hr (by decide) (by rfl) (pa_cons (pv 0) (pa_cons pe_int pa_nil))) pe_int) (fun _ _=>rfl)))
      (pss_cons (ps_for PassesOwn.never rfl (pi_range1 (by rfl) T.b_range (pa_cons pe_int pa_nil)) (pg_name (i:=7) scLaw.nd rfl (Or.inl rfl))
        (pss_one (ps_if (PW.pt (pw_or (pt_not (pt_val (pe_d0 D_law_refused hr (by decide) (by rfl) (pa_cons (pv 7) (pa_cons (pv 3) (pa_cons (pe_callTy call_list_of (by rfl) T.b_list bt_list (pa_cons (pv 5) pa_nil)) (pa_cons (pv 6) pa_nil))))))) (pw_or1 (pt_cmpR (op_neX hr.units) (pv 3) (pv 4) (nomark _))))) (pss_one (ps_ret pe_bl)) pss_nil)))
      (pss_cons (ps_setC (NB:=["_law_number"]) (pick:=[none]) (i:=8) scLaw.nd rfl (Or.inl rfl) (by rfl) (blk_mk (by with_unfolding_all rfl) (by exact trivial) rfl (by decide +kernel) (by decide +kernel) (by rfl) (by rfl)) rfl
          (pi_list (pv 2)) (fun _ _ _=>pg_name (i:=0) (show(["_law_number"]:List Str).Nodup from by decide +kernel) rfl (Or.inl rfl))
          (fun _ _ _=>pif_nil) (fun _ _ _=>(pe_op op_mul pe_int (pv 0))))
      (pss_cons (ps_set (i:=9) scLaw.nd rfl (Or.inl rfl) (pe_op op_sub (pe_callB call_len_seq (by rfl) T.b_len bt_len (pa_cons (pv 2) pa_nil)) pe_int))
      (pss_cons (ps_if (PW.pt (pw_or (pt_cmpR (op_neL hr.units) (pe_d1 pass_no D_summed hr (by decide) (by rfl) (pa_cons (pv 2) (pa_cons (pv 2) pa_nil))) (pv 8) (nomark _)) (pw_or (pt_cmpR (op_neL hr.units) (pe_d1 pass_no D_summed hr (by decide) (by rfl) (pa_cons (pe_op op_rep (pe_lst (pa_cons pe_int pa_nil)) (pe_callB call_len_seq (by rfl) T.b_len bt_len (pa_cons (pv 2) pa_nil))) (pa_cons (pv 2) pa_nil))) (pv 2) (nomark _)) (pw_or1 (pt_cmpR (op_neL hr.units) (pe_d1 pass_no D_turned hr (by decide) (by rfl) (pa_cons (pv 2) pa_nil)) (pv 2) (nomark _)))))) (pss_one (ps_ret pe_bl)) pss_nil)
      (pss_cons (ps_if (PW.pt (pw_or (pt_cmpR (op_neL hr.units) (pe_d1 pass_no D_cut hr (by decide) (by rfl) (pa_cons (pv 2) (pa_cons (pv 9) pa_nil))) (pv 2) (nomark _)) (pw_or1 (pt_cmpR (op_neL hr.units) (pe_d1 pass_no D_merged hr (by decide) (by rfl) (pa_cons (pv 2) (pa_cons (pv 9) pa_nil))) (pe_lst (pa_cons pe_int (pa_cons (pe_ix ix_list (pv 2) (pe_un un_neg pe_int) (fun _ _=>rfl)) pa_nil))) (nomark _))))) (pss_one (ps_ret pe_bl)) pss_nil)
      (pss_cons (ps_set (i:=10) scLaw.nd rfl (Or.inl rfl) (pe_d0 D_law_words hr (by decide) (by rfl) (pa_cons (pv 2) pa_nil)))
      (pss_cons (ps_if (PW.pt (pw_or (pt_cmpR op_ne (pe_d1 pass_no D_shown hr (by decide) (by rfl) (pa_cons (pv 2) pa_nil)) (pv 10) (nomark _)) (pw_or1 (pt_cmpR op_ne (pe_methX0 (k:=4) pass_no (pe_makeX pass_no T.kCO D_CI hr (by decide) (by rfl) T.mCO (pa_cons (pe_callB call_len_seq (by rfl) T.b_len bt_len (pa_cons (pv 1) pa_nil)) (pa_cons (pe_lst (pa_cons (pe_makeX pass_no T.kPL D_PI hr (by decide) (by rfl) T.mPL (pa_cons (pe_callTy call_list_of (by rfl) T.b_list bt_list (pa_cons (pv 2) pa_nil)) pa_nil)) pa_nil)) pa_nil))) hr (by decide)) (pv 10) (nomark _))))) (pss_one (ps_ret pe_bl)) pss_nil)
      (pss_cons (ps_if (pt_not (pt_val (pe_d0 D_law_again hr (by decide) (by rfl) (pa_cons (pv 2) (pa_cons (pv 10) pa_nil))))) (pss_one (ps_ret pe_bl)) pss_nil)
      (pss_cons (ps_if (pt_cmpR op_eq (pe_callB call_len_seq (by rfl) T.b_len bt_len (pa_cons (pv 1) pa_nil)) pe_int (nomark _)) (pss_one (ps_ret pe_bl)) pss_nil)
      (pss_one (ps_ret (pe_and (pe_cmpR (op_eqL hr.units) (pe_d1 pass_no D_beside hr (by decide) (by rfl) (pa_cons (pv 2) (pa_cons (pe_lst (pa_cons pe_int (pa_cons pe_int pa_nil))) pa_nil))) (pe_d0 D_law_sums hr (by decide) (by rfl) (pa_cons (pe_op op_catQ (pv 1) (pe_lst (pa_cons pe_int pa_nil))) pa_nil)) (nomark _)) (pe_one (pe_cmpR (op_eqL hr.units) (pe_d1 pass_no D_beside hr (by decide) (by rfl) (pa_cons (pe_lst (pa_cons pe_int (pa_cons pe_int pa_nil))) (pa_cons (pv 2) pa_nil))) (pe_d0 D_law_sums hr (by decide) (by rfl) (pa_cons (pe_op op_catQ (pe_lst (pa_cons pe_int pa_nil)) (pv 1)) pa_nil)) (nomark _))))))))))))))))))))),?_⟩
    refine⟨_,rfl,a,ns,rfl,hq,sm,fun ls S H1 hls s1 ow hS=>?_⟩
    have h1:=ow.1
    have h6:=ow.2.1
    have tb:=tabS_tab h1 h6
    have q1:=s1.seq hq
    refine⟨_,rfl,ls,S,rfl,hS,h6,fun l H2 hl s2 ht=>?_⟩
    have hS:=s2 _ _ hS
    have q1:=s2.seq q1
    refine⟨_,rfl,_,rfl,a,l,ns,S.length,tabS S,rfl,q1,sm,ht,tb,log_tab ow,fun ln xs H3 hln s3 hn xn okn bad=>?_⟩
    have hS:=s3 _ _ hS
    have ht:=s3 _ _ ht
    have q1:=s3.seq q1
    refine⟨_,rfl,ln,_,rfl,.inl (SqL.of hn),fun lk hlk=>?_⟩
    have w1:=Same.upd_new (o:=.lst xs) hlk
    have kk:upd H3 lk (.lst xs) lk=some (.lst xs):=upd_same
    generalize upd H3 lk (.lst xs)=H4 at w1 kk⊢
    have hS:=w1 _ _ hS
    have ht:=w1 _ _ ht
    have hn:=w1 _ _ hn
    have q1:=w1.seq q1
    have okn:∀v∈xs,Okx K H4 v:=fun v hv=>(okn v hv).same w1
    have pos:=tb.pos
    have hlen:=tabS_len S
    have hpos:0<2^S.length:=Nat.pow_pos (by decide)
    have h64:2^S.length≤64:=pow6 h6
    have el:(((tabS S).map V.int).length:Int)=((2^S.length:Nat):Int):=by rw[List.length_map,hlen]
    dsimp only[gName]
    refine st_lit (σ':=[some (.ref a),some (.ref ls),some (.ref l),some (.ref ln),some (.ref lk),none,none,none,none,none,none]) rfl ?_
    refine⟨by show 2≤sizeLine;decide,fun p1 hp1=>?_⟩
    have w2:=Same.upd_new (o:=.lst [V.int 0,V.int 7]) hp1
    have k1:upd H4 p1 (.lst [V.int 0,V.int 7]) p1=some (.lst (([0,7]:List Int).map V.int)):=upd_same
    generalize upd H4 p1 (.lst [V.int 0,V.int 7])=H5 at w2 k1⊢
    refine⟨by show 1≤sizeLine;decide,fun p2 hp2=>⟨p2,64,[.int 0],rfl,rfl,upd_same,by decide,by decide,by show 1*64≤sizeLine;decide,fun p3 hp3=>?_⟩⟩
    have w3:=Same.upd_new (o:=.lst [V.int 0]) hp2
    rw[show(64:Int)=((64:Nat):Int) from rfl,rep_flat]
    have w4:=Same.upd_new (o:=.lst ((List.replicate 64 (0:Int)).map V.int)) hp3
    have k3:upd (upd H5 p2 (.lst [V.int 0])) p3 (.lst ((List.replicate 64 (0:Int)).map V.int)) p3=some (.lst ((List.replicate 64 (0:Int)).map V.int)):=upd_same
    have w34:=w3.trans w4
    generalize upd (upd H5 p2 (.lst [V.int 0])) p3 (.lst ((List.replicate 64 (0:Int)).map V.int))=H6 at w34 k3⊢
    clear w3 w4
    refine⟨_,rfl,l,_,rfl,.inl (SqL.of ((w2.trans w34) _ _ ht)),fun p4 hp4=>?_⟩
    have w5:=Same.upd_new (o:=.lst ((tabS S).map V.int)) hp4
    have k4:upd H6 p4 (.lst ((tabS S).map V.int)) p4=some (.lst ((tabS S).map V.int)):=upd_same
    generalize upd H6 p4 (.lst ((tabS S).map V.int))=H7 at w5 k4⊢
    refine⟨by show 3≤sizeLine;decide,fun lo hlo=>?_⟩
    have w6:=Same.upd_new (o:=.lst [V.ref p1,V.ref p3,V.ref p4]) hlo
    have ko:upd H7 lo (.lst [V.ref p1,V.ref p3,V.ref p4]) lo=some (.lst [V.ref p1,V.ref p3,V.ref p4]):=upd_same
    generalize upd H7 lo (.lst [V.ref p1,V.ref p3,V.ref p4])=H8 at w6 ko⊢
    have w28:=w2.trans (w34.trans (w5.trans w6))
    have k1:=(w34.trans (w5.trans w6)) _ _ k1
    have k3:=(w5.trans w6) _ _ k3
    have k4:=w6 _ _ k4
    have hS:=w28 _ _ hS
    have ht:=w28 _ _ ht
    have hn:=w28 _ _ hn
    have kk:=w28 _ _ kk
    have q1:=w28.seq q1
    have okn:∀v∈xs,Okx K H8 v:=fun v hv=>(okn v hv).same w28
    clear w1 w2 w34 w5 w6 w28
    refine⟨_,rfl,a,ns,9,rfl,q1,sm,by decide,fun c _=>?_⟩
    obtain⟨lp,om,ors,hy,hor,otb⟩:∃(lp:Addr) (om:Nat) (ors:List Int),atI [V.ref p1,V.ref p3,V.ref p4] (c%3)=some (.ref lp)∧H8 lp=some (.lst (ors.map V.int))∧TabN om ors:=by
      have e0:=Int.emod_nonneg c (b:=3) (by decide)
      have e1:=Int.emod_lt_of_pos c (b:=3) (by decide)
      rcases(by omega:c%3=0∨c%3=1∨c%3=2) with z | z | z
      · exact⟨p1,_,_,by rw[z];rfl,k1,tab07⟩
      · exact⟨p3,_,_,by rw[z];rfl,k3,tab64⟩
      · exact⟨p4,_,_,by rw[z];rfl,k4,tb⟩
    refine⟨_,_,rfl,rfl,(by show(0:Int)<3;decide),lo,_,_,_,rfl,rfl,SqL.of ko,hy,?_⟩
    refine⟨_,rfl,_,rfl,l,_,rfl,.inl (SqL.of ht),_,_,rfl,rfl,by show 5≤sizeLine;decide,fun lg hlg=>?_⟩
    have w9:=Same.upd_new (o:=.lst [V.int 1,V.int 0,V.int (-1),V.int 64,V.int ((((tabS S).map V.int).length:Int)-1)]) hlg
    have kg:upd H8 lg (.lst [V.int 1,V.int 0,V.int (-1),V.int 64,V.int ((((tabS S).map V.int).length:Int)-1)]) lg=some (.lst [V.int 1,V.int 0,V.int (-1),V.int 64,V.int ((((tabS S).map V.int).length:Int)-1)]):=upd_same
    generalize upd H8 lg (.lst [V.int 1,V.int 0,V.int (-1),V.int 64,V.int ((((tabS S).map V.int).length:Int)-1)])=H9 at w9 kg⊢
    have hor:=w9 _ _ hor
    have hS:=w9 _ _ hS
    have ht:=w9 _ _ ht
    have hn:=w9 _ _ hn
    have kk:=w9 _ _ kk
    have q1:=w9.seq q1
    have okn:∀v∈xs,Okx K H9 v:=fun v hv=>(okn v hv).same w9
    clear w9 k1 k3 k4 ko
    refine⟨_,rfl,a,ns,10,rfl,q1,sm,by decide,fun c2 _=>?_⟩
    obtain⟨gv,hg,_⟩:=atI_in (xs:=[V.int 1,V.int 0,V.int (-1),V.int 64,V.int ((((tabS S).map V.int).length:Int)-1)]) (i:=c2%5) (Int.emod_nonneg _ (by decide)) (Int.emod_lt_of_pos _ (by decide))
    refine⟨_,_,rfl,rfl,(by show(0:Int)<5;decide),lg,_,_,gv,rfl,rfl,SqL.of kg,hg,?_⟩
    dsimp only[gName]
    refine st_lit (σ':=[some (.ref a),some (.ref ls),some (.ref l),some (.ref ln),some (.ref lk),some (.ref lp),some gv,none,none,none,none]) rfl ?_
    refine⟨8,rfl,by decide,by decide,?_⟩
    refine for_range (n:=8) (fun i σ' H'=>Same H9 H'∧∃o7:Option V,σ'=[some (.ref a),some (.ref ls),some (.ref l),some (.ref ln),some (.ref lk),some (.ref lp),some gv,o7,none,none,none]) ⟨.refl _,_,rfl⟩ ?_ ?_
    · rintro i σ' HB hi ⟨sB,o7,rfl⟩
      refine⟨_,rfl,_,rfl,_,rfl,lp,_,rfl,.inl (SqL.of (sB _ _ hor)),fun lc hlc=>?_⟩
      have wc:=Same.upd_new (o:=.lst (ors.map V.int)) hlc
      have sC:=sB.trans wc
      refine⟨_,rfl,_,ln,lc,xs,om,ors,gv,rfl,⟨sC _ _ hn,fun v hv=>((okn v hv).same sC).1,xn,bad⟩,upd_same,otb,fun HC sC2=>⟨_,rfl,iteF ?_⟩⟩
      have sBC:=sC.trans sC2
      obtain⟨ds,hds,hdl⟩:=datx_all fun v hv=>(okn v hv).same sBC
      exact⟨_,rfl,_,rfl,.list ds,.lst (SqL.of (sBC _ _ hn)) hds,.lst (SqL.of (sBC _ _ kk)) hds,by show PyData.depthAll ds+1≤64;omega,_,rfl,iteF ⟨sBC,_,rfl⟩⟩
    rintro σ' HB ⟨sB,o7,rfl⟩
    have hS:=sB _ _ hS
    have ht:=sB _ _ ht
    clear hn kk okn bad xn hor otb hg kg hy q1 sB
    refine⟨_,rfl,l,rfl,⟨_,SqL.of ht⟩,?_⟩
    refine comp_lst (xs:=(tabS S).map V.int) (fun i _=>((tabS S)[i]?).map fun n=>V.int (2*n)) (SqL.of ht) (by rw[List.length_map];exact Nat.le_of_lt (small1000 (by omega))) (fun i x H4 kk kk0 s4 hx g1 g2=>?_) fun ld HC hld sC hd=>?_
    · rw[List.getElem?_map] at hx
      cases e:(tabS S)[i]? with
      | none=>rw[e] at hx;cases hx
      | some n =>
        rw[e] at hx
        cases hx
        exact⟨_,rfl,_,_,rfl,rfl,.inl ⟨by decide,by decide⟩,g1 _ (by rw[e];rfl) _ (.refl _)⟩
    have ed:((List.range ((tabS S).map V.int).length).filterMap fun i=>(((tabS S).map V.int)[i]?).bind fun _=>((tabS S)[i]?).map fun n=>V.int (2*n))=((tabS S).map fun n=>2*n).map V.int:=by
      rw[List.length_map]
      refine Eq.trans (fm_congr (g:=fun i=>((tabS S)[i]?).bind fun n=>some (V.int (2*n))) fun i hi=>?_) ?_
      · rw[List.getElem?_map]
        cases (tabS S)[i]? <;> rfl
      · rw[fm_bind,List.filterMap_eq_map',List.map_map]
        rfl
    rw[ed] at hd
    have hS:=sC _ _ hS
    have ht:=sC _ _ ht
    dsimp only[gName]
    refine⟨_,rfl,l,_,rfl,.inl (SqL.of ht),_,_,rfl,rfl,?_⟩
    rw[el]
    dsimp only[gName]
    refine st_lit (σ':=[some (.ref a),some (.ref ls),some (.ref l),some (.ref ln),some (.ref lk),some (.ref lp),some gv,o7,some (.ref ld),some (.int (((2^S.length:Nat):Int)-1)),none]) rfl ?_
    refine⟨_,rfl,_,rfl,l,l,_,_,_,_,rfl,ht,ht,tb,tb,(fun ne=>absurd rfl ne),fun q1 HD _ hq1 sD hD=>?_⟩
    rw[sum_twice] at hD
    have ht:=sD _ _ ht
    have hS:=sD _ _ hS
    refine⟨_,rfl,q1,ld,_,_,rfl,rfl,SqL.of hD,SqL.of (sD _ _ hd),_,rfl,?_⟩
    rw[decide_eq_true rfl]
    refine iteF ?_
    refine⟨by show 1≤sizeLine;decide,fun pz hpz=>?_⟩
    have wz:=Same.upd_new (o:=.lst [V.int 0]) hpz
    refine⟨_,rfl,l,_,rfl,.inl (SqL.of (wz _ _ ht)),pz,_,[.int 0],rfl,rfl,upd_same,?_⟩
    rw[el,rep_flat,Int.toNat_natCast]
    refine⟨by omega,by omega,Nat.le_of_lt (small1000 (by show 1*2^S.length≤1000;omega)),fun pr hpr=>?_⟩
    have wr:=Same.upd_new (o:=.lst ((List.replicate (2^S.length) (0:Int)).map V.int)) hpr
    have kr:upd (upd HD pz (.lst [V.int 0])) pr (.lst ((List.replicate (2^S.length) (0:Int)).map V.int)) pr=some (.lst ((List.replicate (2^S.length) (0:Int)).map V.int)):=upd_same
    have wzr:=wz.trans wr
    generalize upd (upd HD pz (.lst [V.int 0])) pr (.lst ((List.replicate (2^S.length) (0:Int)).map V.int))=HE at wzr kr⊢
    have ht:=wzr _ _ ht
    have hS:=wzr _ _ hS
    have tz:=tabZ tb
    rw[hlen] at tz
    refine⟨_,rfl,pr,l,_,_,_,_,rfl,kr,ht,tz,tb,(fun ne=>absurd rfl ne),fun q2 HF _ hq2 sF hF=>?_⟩
    rw[show List.replicate (2^S.length) (0:Int)=List.replicate (tabS S).length 0 by rw[hlen],sum_nought] at hF
    have ht:=sF _ _ ht
    have hS:=sF _ _ hS
    refine⟨_,rfl,q2,l,_,_,rfl,rfl,SqL.of hF,SqL.of ht,_,rfl,?_⟩
    rw[decide_eq_true rfl]
    refine iteF ?_
    refine⟨_,rfl,l,_,_,rfl,ht,tb,fun q3 HG hq3 sG hG=>?_⟩
    rw[turn_same] at hG
    have ht:=sG _ _ ht
    have hS:=sG _ _ hS
    refine⟨_,rfl,q3,l,_,_,rfl,rfl,SqL.of hG,SqL.of ht,_,rfl,?_⟩
    rw[decide_eq_true rfl]
    refine iteF ?_
    clear hD hF hG wz wr wzr kr
    have eg:((2^S.length:Nat):Int)-1=((2^S.length-1:Nat):Int):=by omega
    have h2:2≤2^S.length:=by rw[← hlen];exact pos.1
    have ing:=some_inB (g:=2^S.length-1) (m:=S.length) (by omega) (by omega)
    have hlast:atI ((tabS S).map V.int) (-1)=some (.int (sB S (2^S.length-1))):=by
      obtain⟨j,hj⟩:∃j,2^S.length=j+1:=⟨2^S.length-1,by omega⟩
      rw[tabS_eq,hj,List.range_succ,List.map_append,List.map_append,Nat.add_sub_cancel]
      exact atI_last _ _
    rw[eg]
    dsimp only[tNext]
    refine⟨_,rfl,_,rfl,l,_,_,_,rfl,ht,tb,.int _,(fun no=>by rw[ing] at no;cases no),fun g q4 HH e4 g1 g2 hq4 sH hH=>?_⟩
    obtain rfl:g=2^S.length-1:=by have:=V.int.inj e4;omega
    rw[cut_same h6] at hH
    have ht:=sH _ _ ht
    have hS:=sH _ _ hS
    refine⟨_,rfl,q4,l,_,_,rfl,rfl,SqL.of hH,SqL.of ht,_,rfl,?_⟩
    rw[decide_eq_true rfl]
    refine iteF ?_
    refine⟨_,rfl,_,rfl,l,_,_,_,rfl,ht,tb,.int _,(fun no=>by rw[ing] at no;cases no),fun g q5 HI e5 g1 g2 hq5 sI hI=>?_⟩
    obtain rfl:g=2^S.length-1:=by have:=V.int.inj e5;omega
    rw[merge_same h1 h6] at hI
    have ht:=sI _ _ ht
    have hS:=sI _ _ hS
    refine⟨_,rfl,_,rfl,l,_,_,_,rfl,rfl,SqL.of ht,hlast,by show 2≤sizeLine;decide,fun pn hpn=>?_⟩
    have wn:=Same.upd_new (o:=.lst [V.int 0,V.int (sB S (2^S.length-1))]) hpn
    refine⟨q5,pn,_,[0,sB S (2^S.length-1)],rfl,rfl,SqL.of (wn _ _ hI),SqL.of upd_same,_,rfl,?_⟩
    rw[decide_eq_true rfl]
    refine iteF ?_
    have ht:=wn _ _ ht
    have hS:=wn _ _ hS
    generalize upd HI pn (.lst [V.int 0,V.int (sB S (2^S.length-1))])=HJ at ht hS⊢
    clear hH hI wn
    have tlen:=tlS_len S
    have tbd:=tlS_bound ow
    have ht0:HJ l=some (.lst ((0::tlS S).map V.int)):=by rw[← tabS_cons];exact ht
    dsimp only[tNext]
    refine⟨_,rfl,l,S.length,tlS S,rfl,ht0,tlen,tbd,h1,h6,fun HK sK=>?_⟩
    have ht:=sK _ _ ht
    have hS:=sK _ _ hS
    have ht0:=sK _ _ ht0
    dsimp only[gName]
    refine st_lit (σ':=[some (.ref a),some (.ref ls),some (.ref l),some (.ref ln),some (.ref lk),some (.ref lp),some gv,o7,some (.ref ld),some (.int ((2^S.length-1:Nat):Int)),some (.str (cwT S.length [tabT (tlS S)]))]) rfl ?_
    refine⟨_,rfl,l,S.length,tlS S,rfl,ht0,tlen,tbd,h1,h6,fun HL sL=>?_⟩
    have ht:=sL _ _ ht
    have hS:=sL _ _ hS
    have ht0:=sL _ _ ht0
    refine⟨_,rfl,rfl,_,rfl,?_⟩
    rw[decide_eq_true rfl]
    refine iteF ?_
    have es:(((S.map V.int).length:Nat):Int)=(S.length:Int):=by rw[List.length_map]
    refine⟨_,rfl,ls,_,rfl,.inl (SqL.of hS),?_⟩
    rw[es]
    refine⟨_,rfl,l,_,rfl,.inl (SqL.of ht),fun pt hpt=>?_⟩
    have wt:=Same.upd_new (o:=.lst ((tabS S).map V.int)) hpt
    have kt:upd HL pt (.lst ((tabS S).map V.int)) pt=some (.lst ((0::tlS S).map V.int)):=by rw[← tabS_cons];exact upd_same
    have ht:=wt _ _ ht
    have hS:=wt _ _ hS
    generalize upd HL pt (.lst ((tabS S).map V.int))=HM at kt ht hS⊢
    have hn:(0::tlS S).length=2^S.length:=by rw[List.length_cons,tlen];omega
    refine fun x dx hx hd ne=>mk_plain hx hd ne kt hn h1 h6 fun l' HN hl' sN hx2 hl2=>⟨rfl,(by show 1≤sizeLine;decide),fun p hp=>?_⟩
    have u3:=Same.upd_new (o:=.lst [V.ref x]) hp
    have hx3:=u3 _ _ hx2
    have hl3:=u3 _ _ hl2
    have ro:RObj P w K mg base fE fH RU (upd HN p (.lst [V.ref x])) x S.length (fun g=>(0::tlS S).getD g 0):=plain_obj D_PR T.rPL hx3 hl3 hn h1 h6
    have wo:WObj P w K mg base (upd HN p (.lst [V.ref x])) x (tabT (tlS S)):=w_plain T D_PlW hx3 hl3 (by omega) tbd
    refine fun c dc hc hdc nc=>mk_comp (os:=[(x,S.length,fun g=>(0::tlS S).getD g 0)]) hc hdc nc upd_same (by show 1≤12;decide) (fun o ho=>by rw[List.mem_singleton.mp ho];exact ro) (fun o ho=>by rw[List.mem_singleton.mp ho]) h1 h6 fun lc HO hlc s6 hc6 hlc6=>⟨rfl,?_⟩
    refine⟨c,CO,dc,_,cW,_,rfl,hc6,rfl,T.rCO.oc.cl,T.rCO.mw,⟨_,D_CW⟩,?_⟩
    refine⟨c,S.length,[(x,S.length,fun g=>(0::tlS S).getD g 0)],[tabT (tlS S)],rfl,⟨dc,lc,hc6,hlc6,(by show 1≤12;decide),h1,h6,fun o ho=>by rw[List.mem_singleton.mp ho];exact ro.same s6,fun o ho=>by rw[List.mem_singleton.mp ho]⟩,rfl,fun i o tx e1 e2=>?_,fun t ht=>?_,fun HP s7=>?_⟩
    · cases i with
      | zero=>cases e1;cases e2;exact wo.same s6
      | succ i=>cases e1
    · rw[List.mem_singleton.mp ht]
      exact Nat.le_trans (tab_len2 (by omega) tbd) (by decide)
    have sP:=sN.trans (u3.trans (s6.trans s7))
    have ht:=sP _ _ ht
    have hS:=sP _ _ hS
    have ht0:HP l=some (.lst ((0::tlS S).map V.int)):=by rw[← tabS_cons];exact ht
    refine⟨_,rfl,rfl,_,rfl,?_⟩
    rw[decide_eq_true rfl]
    refine iteF ?_
    dsimp only[tNext]
    refine⟨_,rfl,_,rfl,l,S.length,tlS S,rfl,ht0,tlen,tbd,h1,h6,fun HQ sQ=>⟨_,rfl,iteF ?_⟩⟩
    have ht:=sQ _ _ ht
    have hS:=sQ _ _ hS
    dsimp only[tNext]
    refine⟨_,rfl,ls,_,rfl,.inl (SqL.of hS),rfl,_,rfl,?_⟩
    rw[es]
    dsimp only
    by_cases z6:S.length=6
    · rw[decide_eq_true (show V.int (S.length:Int)=V.int 6 by rw[z6];rfl)]
      exact iteT (k _)
    rw[decide_eq_false (show ¬V.int (S.length:Int)=V.int 6 from fun e=>z6 (by have:=V.int.inj e;omega))]
    refine iteF ?_
    dsimp only[tNext]
    refine⟨_,rfl,by show 2≤sizeLine;decide,fun p5 hp5=>?_⟩
    have w5:=Same.upd_new (o:=.lst [V.int 0,V.int 5]) hp5
    have k5:upd HQ p5 (.lst [V.int 0,V.int 5]) p5=some (.lst (([0,5]:List Int).map V.int)):=upd_same
    have ht:=w5 _ _ ht
    have hS:=w5 _ _ hS
    generalize upd HQ p5 (.lst [V.int 0,V.int 5])=HR at k5 ht hS⊢
    refine⟨l,p5,_,_,_,_,rfl,ht,k5,tb,tab05,(fun big=>absurd big (by omega)),fun q6 HS _ hq6 sS hB=>?_⟩
    rw[beside_last] at hB
    have ht:=sS _ _ ht
    have hS:=sS _ _ hS
    refine⟨_,rfl,by show 1≤sizeLine;decide,fun p6 hp6=>?_⟩
    have w6:=Same.upd_new (o:=.lst [V.int 5]) hp6
    refine⟨ls,p6,_,[V.int 5],rfl,rfl,SqL.of (w6 _ _ hS),SqL.of upd_same,by rw[List.length_map];exact Nat.le_of_lt (small1000 (by show _+1≤_;omega)),fun p7 hp7=>?_⟩
    have w7:=Same.upd_new (o:=.lst (S.map V.int++[V.int 5])) hp7
    have k7:upd (upd HS p6 (.lst [V.int 5])) p7 (.lst (S.map V.int++[V.int 5])) p7=some (.lst ((S++[5]).map V.int)):=by rw[List.map_append];exact upd_same
    have w67:=w6.trans w7
    generalize upd (upd HS p6 (.lst [V.int 5])) p7 (.lst (S.map V.int++[V.int 5]))=HT at w67 k7⊢
    refine⟨p7,S++[5],rfl,k7,(by rw[List.length_append];show _+1≤6;omega),fun q7 HU hq7 sU hU=>?_⟩
    refine⟨q6,q7,_,_,rfl,rfl,SqL.of (sU _ _ (w67 _ _ hB)),SqL.of hU,?_⟩
    rw[decide_eq_true rfl]
    have ht:=sU _ _ (w67 _ _ ht)
    have hS:=sU _ _ (w67 _ _ hS)
    clear w6 w7 w67 hB hU k7
    refine⟨true,rfl,iteT ?_⟩
    refine⟨by show 2≤sizeLine;decide,fun p8 hp8=>?_⟩
    have w8:=Same.upd_new (o:=.lst [V.int 0,V.int 5]) hp8
    have k8:upd HU p8 (.lst [V.int 0,V.int 5]) p8=some (.lst (([0,5]:List Int).map V.int)):=upd_same
    have ht:=w8 _ _ ht
    have hS:=w8 _ _ hS
    generalize upd HU p8 (.lst [V.int 0,V.int 5])=HV at k8 ht hS⊢
    refine⟨_,rfl,p8,l,_,_,_,_,rfl,k8,ht,tab05,tb,(fun big=>absurd big (by omega)),fun q8 HW _ hq8 sW hB=>?_⟩
    rw[beside_first] at hB
    have hS:=sW _ _ hS
    refine⟨by show 1≤sizeLine;decide,fun p6 hp6=>?_⟩
    have w6:=Same.upd_new (o:=.lst [V.int 5]) hp6
    refine⟨_,rfl,p6,ls,[V.int 5],_,rfl,rfl,SqL.of upd_same,SqL.of (w6 _ _ hS),by rw[List.length_map];exact Nat.le_of_lt (small1000 (by show 1+_≤_;omega)),fun p7 hp7=>?_⟩
    have w7:=Same.upd_new (o:=.lst ([V.int 5]++S.map V.int)) hp7
    have k7:upd (upd HW p6 (.lst [V.int 5])) p7 (.lst ([V.int 5]++S.map V.int)) p7=some (.lst ((5::S).map V.int)):=upd_same
    have w67:=w6.trans w7
    generalize upd (upd HW p6 (.lst [V.int 5])) p7 (.lst ([V.int 5]++S.map V.int))=HX at w67 k7⊢
    refine⟨p7,5::S,rfl,k7,(by rw[List.length_cons];omega),fun q9 HY hq9 sY hY=>?_⟩
    refine⟨q8,q9,_,_,rfl,rfl,SqL.of (sY _ _ (w67 _ _ hB)),SqL.of hY,?_⟩
    rw[decide_eq_true rfl]
    exact k _
end
end K19
def PySem.W.Fast.tw6016149190380646178:Unit:=()
def PySem.W.Fast.tw10021084939348147745:Unit:=()
def PySem.W.Fast.tw15519664210206926820:Unit:=()
def PySem.W.Fast.tw7473813036632887654:Unit:=()
def PySem.W.Fast.tw1082277536079400455:Unit:=()
def PySem.W.Fast.tw14881890071763496701:Unit:=()
def PySem.W.Fast.tw14150636424561542791:Unit:=()
def PySem.W.Fast.tw17032341253677549741:Unit:=()
def PySem.W.Fast.tw6449432937389275814:Unit:=()
def PySem.W.Fast.tw663408066722717623:Unit:=()
def PySem.W.Fast.tw619431865794565436:Unit:=()
def PySem.W.Fast.tw2637203712112756006:Unit:=()
def PySem.W.Fast.tw5971078033366846249:Unit:=()
def PySem.W.Fast.tw16234342300250632862:Unit:=()
def PySem.W.Fast.tw8105426769594678790:Unit:=()
def PySem.W.Fast.tw6507756786131274095:Unit:=()
def PySem.W.Fast.tw1440990111453356096:Unit:=()
def PySem.W.Fast.tw12588182256648131370:Unit:=()
def PySem.W.Fast.tw10773754085156473617:Unit:=()
def PySem.W.Fast.tw2355239373219491434:Unit:=()
def PySem.W.Fast.tw4806943369854233686:Unit:=()
def PySem.W.Fast.tw14320121195667011233:Unit:=()
def PySem.W.Fast.tw2987195320960701876:Unit:=()
def PySem.W.Fast.tw9568018718192185542:Unit:=()
def PySem.W.Fast.tw18437182225287423721:Unit:=()
def PySem.W.Fast.tw18209326707664630041:Unit:=()
def PySem.W.Fast.tw4196993287855668253:Unit:=()
def PySem.W.Fast.tw11536347477338156786:Unit:=()
def PySem.W.Fast.tw17864170873749904506:Unit:=()
def PySem.W.Fast.tw3429618843190158064:Unit:=()
def PySem.W.Fast.tw12375849709003787294:Unit:=()
def PySem.W.Fast.tw15468046614233592190:Unit:=()
def PySem.W.Fast.tw13366533858942673169:Unit:=()
def PySem.W.Fast.tw16371832377095821394:Unit:=()
def PySem.W.Fast.tw11078378873275286528:Unit:=()
def PySem.W.Fast.tw12072614426899730706:Unit:=()
def PySem.W.Fast.tw8130043766564412885:Unit:=()
def PySem.W.Fast.tw12980941294912895780:Unit:=()
def PySem.W.Fast.tw16734510095233707275:Unit:=()
def PySem.W.Fast.tw11962393043174769284:Unit:=()
def PySem.W.Fast.tw15783891099469211873:Unit:=()
def PySem.W.Fast.tw1746783008665972269:Unit:=()
def PySem.W.Fast.tw5777332011137340392:Unit:=()
def PySem.W.Fast.tw12881563936927768956:Unit:=()
def PySem.W.Fast.tw16144670452609644112:Unit:=()
def PySem.W.Fast.tw298913908813865676:Unit:=()
def PySem.W.Fast.tw8627654610494241125:Unit:=()
def PySem.W.Fast.tw2840666522636049683:Unit:=()
def PySem.W.Fast.tw14866282552647972822:Unit:=()
def PySem.W.Fast.tw13288790469079643556:Unit:=()
def PySem.W.Fast.tw12962755801324625572:Unit:=()
def PySem.W.Fast.tw12524093357537788053:Unit:=()
def PySem.W.Fast.tw4333755461985849719:Unit:=()
def PySem.W.Fast.tw7697921743844330432:Unit:=()
def PySem.W.Fast.tw7175156204731413535:Unit:=()
def PySem.W.Fast.tw10559033227008267579:Unit:=()
def PySem.W.Fast.tw16348400557137040657:Unit:=()
def PySem.W.Fast.tw9872858721396134163:Unit:=()
def PySem.W.Fast.tw14733619577327709476:Unit:=()
def PySem.W.Fast.tw7144131932235448602:Unit:=()
def PySem.W.Fast.tw13065585916112032102:Unit:=()
def PySem.W.Fast.tw10969769354285815774:Unit:=()
def PySem.W.Fast.tw9307271586994408119:Unit:=()
def PySem.W.Fast.tw542507652766969666:Unit:=()
def PySem.W.Fast.tw1687633505636982117:Unit:=()
def PySem.W.Fast.tw15625326497245765855:Unit:=()
def PySem.W.Fast.tw9033754716070203154:Unit:=()
def PySem.W.Fast.tw5473643093214429270:Unit:=()
def PySem.W.Fast.tw4191793289828520437:Unit:=()
def PySem.W.Fast.tw5723794149613808412:Unit:=()
def PySem.W.Fast.tw5207309223688680401:Unit:=()
def PySem.W.Fast.tw3154830568204896409:Unit:=()
def PySem.W.Fast.tw10944989371760642886:Unit:=()
def PySem.W.Fast.tw15640549793791915799:Unit:=()
def PySem.W.Fast.tw12680004542039388157:Unit:=()
def PySem.W.Fast.tw9437523494708265905:Unit:=()
def PySem.W.Fast.tw791236955014248778:Unit:=()
def PySem.W.Fast.tw16019397634447907742:Unit:=()
def PySem.W.Fast.tw18254121676608798925:Unit:=()
def PySem.W.Fast.tw18422169923567465044:Unit:=()
def PySem.W.Fast.tw7991811293290809303:Unit:=()
def PySem.W.Fast.tw4491549172411563370:Unit:=()
def PySem.W.Fast.tw2205540677851876818:Unit:=()
def PySem.W.Fast.tw14111312493987779924:Unit:=()
def PySem.W.Fast.tw3448962043925018825:Unit:=()
def PySem.W.Fast.tw15597007613473522265:Unit:=()
def PySem.W.Fast.tw2012740587630928895:Unit:=()
def PySem.W.Fast.tw8277265925193602796:Unit:=()
def PySem.W.Fast.tw11944657193747133501:Unit:=()
def PySem.W.Fast.tw24955879406811711:Unit:=()
def PySem.W.Fast.tw15100574154125678844:Unit:=()
def PySem.W.Fast.tw14860178743383807988:Unit:=()
def PySem.W.Fast.tw5603920698638211517:Unit:=()
def PySem.W.Fast.tw319578326118866298:Unit:=()
def PySem.W.Fast.tw13538689703639027780:Unit:=()
def PySem.W.Fast.tw3216045918365399667:Unit:=()
def PySem.W.Fast.tw13677735271287705090:Unit:=()
def PySem.W.Fast.tw13228492689676686436:Unit:=()
def PySem.W.Fast.tw654633494080244377:Unit:=()
def PySem.W.Fast.tw14376669223517599374:Unit:=()
def PySem.W.Fast.tw17007749848902705841:Unit:=()
def PySem.W.Fast.tw14244603334301184521:Unit:=()
def PySem.W.Fast.tw9381754120852027669:Unit:=()
def PySem.W.Fast.tw14699114279980445050:Unit:=()
def PySem.W.Fast.tw4679989193068425284:Unit:=()
def PySem.W.Fast.tw13990897607354065444:Unit:=()
def PySem.W.Fast.tw4408137258231250572:Unit:=()
def PySem.W.Fast.tw16985642164804658407:Unit:=()
def PySem.W.Fast.tw13406873686896955077:Unit:=()
def PySem.W.Fast.tw4538029950037550872:Unit:=()
def PySem.W.Fast.tw16605580513771089034:Unit:=()
def PySem.W.Fast.tw1901594143503534085:Unit:=()
def PySem.W.Fast.tw3401252675374028675:Unit:=()
def PySem.W.Fast.tw8992424565590688679:Unit:=()
def PySem.W.Fast.tw13508516667232271691:Unit:=()
def PySem.W.Fast.tw13461314381414561863:Unit:=()
def PySem.W.Fast.tw17213061678964560611:Unit:=()
def PySem.W.Fast.tw4171658449403128919:Unit:=()
def PySem.W.Fast.tw17042931228414738169:Unit:=()
def PySem.W.Fast.tw14915817570664884008:Unit:=()
def PySem.W.Fast.tw2109698620982309947:Unit:=()
def PySem.W.Fast.tw18391099869808411222:Unit:=()
def PySem.W.Fast.tw571204518705964518:Unit:=()
def PySem.W.Fast.tw4303536862896472120:Unit:=()
def PySem.W.Fast.tw3261627072869670064:Unit:=()
def PySem.W.Fast.tw12492325775363091028:Unit:=()
def PySem.W.Fast.tw11891258234693500505:Unit:=()
def PySem.W.Fast.tw12880511685959204410:Unit:=()
def PySem.W.Fast.tw100419583901044243:Unit:=()
def PySem.W.Fast.tw2216124200674982299:Unit:=()
def PySem.W.Fast.tw8374085618456068933:Unit:=()
def PySem.W.Fast.tw5228274334191772776:Unit:=()
def PySem.W.Fast.tw13421931710487707332:Unit:=()
def PySem.W.Fast.tw2618398070200702832:Unit:=()
def PySem.W.Fast.tw14844360936002261167:Unit:=()
def PySem.W.Fast.tw7181308620744666916:Unit:=()
def PySem.W.Fast.tw7221994654058469881:Unit:=()
def PySem.W.Fast.tw4155690221463346559:Unit:=()
def PySem.W.Fast.tw485513586882710012:Unit:=()
def PySem.W.Fast.tw3587684306649165864:Unit:=()
def PySem.W.Fast.tw16186190078654805272:Unit:=()
def PySem.W.Fast.tw3633549782288171795:Unit:=()
def PySem.W.Fast.tw8373775670652683901:Unit:=()
def PySem.W.Fast.tw8751919561839859549:Unit:=()
def PySem.W.Fast.tw7244044599807004714:Unit:=()
def PySem.W.Fast.tw4248286656939652289:Unit:=()
def PySem.W.Fast.tw11892425885612707106:Unit:=()
def PySem.W.Fast.tw9888227109486749185:Unit:=()
def PySem.W.Fast.tw12884841014575325403:Unit:=()
def PySem.W.Fast.tw7943954831307503600:Unit:=()
def PySem.W.Fast.tw17796572570132206916:Unit:=()
def PySem.W.Fast.tw11314269673691373146:Unit:=()
def PySem.W.Fast.tw18092620279494180123:Unit:=()
def PySem.W.Fast.tw13484865446250613048:Unit:=()
def PySem.W.Fast.tw8899397670974116909:Unit:=()
def PySem.W.Fast.tw13977101473822428259:Unit:=()
def PySem.W.Fast.tw17905271963141550598:Unit:=()
def PySem.W.Fast.tw17954515956481553580:Unit:=()
def PySem.W.Fast.tw11646925774854764074:Unit:=()
def PySem.W.Fast.tw11436804227152137471:Unit:=()
def PySem.W.Fast.tw1735108641073974346:Unit:=()
def PySem.W.Fast.tw6512711357009220564:Unit:=()
def PySem.W.Fast.tw7338622188338956115:Unit:=()
def PySem.W.Fast.tw6517673093483518237:Unit:=()
def PySem.W.Fast.tw14675418790345674461:Unit:=()
def PySem.W.Fast.tw11686739084209519604:Unit:=()
def PySem.W.Fast.tw9006231271945351954:Unit:=()
def PySem.W.Fast.tw11378921249188143384:Unit:=()
def PySem.W.Fast.tw5130363384689441441:Unit:=()
def PySem.W.Fast.tw14266782104763217757:Unit:=()
def PySem.W.Fast.tw6812459715467552234:Unit:=()
def PySem.W.Fast.tw2640051715663728724:Unit:=()
def PySem.W.Fast.tw14955744629977745314:Unit:=()
def PySem.W.Fast.tw4335884454820842697:Unit:=()
def PySem.W.Fast.tw1451059626899197968:Unit:=()
def PySem.W.Fast.tw13346635215189347492:Unit:=()
def PySem.W.Fast.tw3100011556499731698:Unit:=()
def PySem.W.Fast.tw993431598472835667:Unit:=()
def PySem.W.Fast.tw3985681724383517232:Unit:=()
def PySem.W.Fast.tw1326289889695008866:Unit:=()
def PySem.W.Fast.tw1267545507295000171:Unit:=()
def PySem.W.Fast.tw1976129662748362858:Unit:=()
def PySem.W.Fast.tw6597072784241653268:Unit:=()
def PySem.W.Fast.tw133353226402011994:Unit:=()
def PySem.W.Fast.tw6788860090418047835:Unit:=()
def PySem.W.Fast.tw3844377905580050836:Unit:=()
def PySem.W.Fast.tw10045350261400520178:Unit:=()
def PySem.W.Fast.tw897832536333393014:Unit:=()
def PySem.W.Fast.tw9256912457806355625:Unit:=()
def PySem.W.Fast.tw14598790516283943606:Unit:=()
def PySem.W.Fast.tw18359204217268023003:Unit:=()
def PySem.W.Fast.tw16010131784003750599:Unit:=()
def PySem.W.Fast.tw2574299915292478196:Unit:=()
def PySem.W.Fast.tw18229827251177426779:Unit:=()
def PySem.W.Fast.tw16406287343112752291:Unit:=()
def PySem.W.Fast.tw1332696043412226091:Unit:=()
def PySem.W.Fast.tw8158612280570946960:Unit:=()
def PySem.W.Fast.tw2385672408543204532:Unit:=()
def PySem.W.Fast.tw816871955961715305:Unit:=()
def PySem.W.Fast.tw10293731434916856421:Unit:=()
def PySem.W.Fast.tw12379039938576348167:Unit:=()
def PySem.W.Fast.tw14549037642888423126:Unit:=()
def PySem.W.Fast.tw202179015817898299:Unit:=()
def PySem.W.Fast.tw8398329660822630855:Unit:=()
def PySem.W.Fast.tw15734565258567582436:Unit:=()
def PySem.W.Fast.tw7117814788363054806:Unit:=()
def PySem.W.Fast.tw13436607580721187624:Unit:=()
def PySem.W.Fast.tw17346339955216192464:Unit:=()
def PySem.W.Fast.tw17443218480242222354:Unit:=()
def PySem.W.Fast.tw642535337475666106:Unit:=()
def PySem.W.Fast.tw13727275241516582877:Unit:=()
def PySem.W.Fast.tw13020349459042150354:Unit:=()
def PySem.W.Fast.tw4718833414639786509:Unit:=()
def PySem.W.Fast.tw14332380098848730128:Unit:=()
def PySem.W.Fast.tw13312040385230667346:Unit:=()
def PySem.W.Fast.tw16498866689269605309:Unit:=()
def PySem.W.Fast.tw127647243926990064:Unit:=()
def PySem.W.Fast.tw10757040571131650063:Unit:=()
def PySem.W.Fast.tw8335306659589463307:Unit:=()
def PySem.W.Fast.tw15413485903659456551:Unit:=()
def PySem.W.Fast.tw6752515778483563603:Unit:=()
def PySem.W.Fast.tw6939209372659614724:Unit:=()
def PySem.W.Fast.tw8934248081520547631:Unit:=()
def PySem.W.Fast.tw17174361658812792429:Unit:=()
def PySem.W.Fast.tw12755023120931552874:Unit:=()
def PySem.W.Fast.tw17117901506925714427:Unit:=()
def PySem.W.Fast.tw7703912778305492645:Unit:=()
def PySem.W.Fast.tw558957037916226573:Unit:=()
def PySem.W.Fast.tw15205149738038654593:Unit:=()
def PySem.W.Fast.tw3088800129497483652:Unit:=()
def PySem.W.Fast.tw1423297827698208605:Unit:=()
def PySem.W.Fast.tw15400308251646421156:Unit:=()
def PySem.W.Fast.tw211423859665997147:Unit:=()
def PySem.W.Fast.tw619511562542839694:Unit:=()
def PySem.W.Fast.tw1565121315536440844:Unit:=()
def PySem.W.Fast.tw10624218564136494074:Unit:=()
def PySem.W.Fast.tw3182355967174228203:Unit:=()
def PySem.W.Fast.tw6520409012684225294:Unit:=()
def PySem.W.Fast.tw10668618964360177419:Unit:=()
def PySem.W.Fast.tw2911930147653188048:Unit:=()
def PySem.W.Fast.tw5434035328765059682:Unit:=()
def PySem.W.Fast.tw7479128141658436100:Unit:=()
def PySem.W.Fast.tw6315029262931668675:Unit:=()
def PySem.W.Fast.tw6950696580990551828:Unit:=()
def PySem.W.Fast.tw13306963293817898624:Unit:=()
def PySem.W.Fast.tw13490540186739715861:Unit:=()
def PySem.W.Fast.tw12387282434890391033:Unit:=()
def PySem.W.Fast.tw308613846951379649:Unit:=()
def PySem.W.Fast.tw7687868296354580727:Unit:=()
def PySem.W.Fast.tw5881160811656021811:Unit:=()
def PySem.W.Fast.tw12225433064205961001:Unit:=()
def PySem.W.Fast.tw9879840370644276333:Unit:=()
def PySem.W.Fast.tw5338081787390101375:Unit:=()
def PySem.W.Fast.tw14867371214223034184:Unit:=()
def PySem.W.Fast.tw10554465702688623829:Unit:=()
def PySem.W.Fast.tw756206459879899609:Unit:=()
def PySem.W.Fast.tw6045939600722057616:Unit:=()
def PySem.W.Fast.tw17102636854946984585:Unit:=()
def PySem.W.Fast.tw6304975939585184511:Unit:=()
def PySem.W.Fast.tw13092850227733826289:Unit:=()
def PySem.W.Fast.tw4808596665752679141:Unit:=()
def PySem.W.Fast.tw3942181492053995413:Unit:=()
def PySem.W.Fast.tw14031520341801834933:Unit:=()
def PySem.W.Fast.tw8946209325680727275:Unit:=()
def PySem.W.Fast.tw3798414511359744507:Unit:=()
def PySem.W.Fast.tw14240891916366314972:Unit:=()
def PySem.W.Fast.tw15232300667093205136:Unit:=()
def PySem.W.Fast.tw9776597804365579597:Unit:=()
def PySem.W.Fast.tw9984323025048046261:Unit:=()
def PySem.W.Fast.tw16479825127653257879:Unit:=()
def PySem.W.Fast.tw13325791201941670438:Unit:=()
def PySem.W.Fast.tw17852865434805156941:Unit:=()
def PySem.W.Fast.tw15195506621140811653:Unit:=()
def PySem.W.Fast.tw10941520193767978994:Unit:=()
def PySem.W.Fast.tw12534111300369102126:Unit:=()
def PySem.W.Fast.tw17675312664343729706:Unit:=()
def PySem.W.Fast.tw2490571461980932137:Unit:=()
def PySem.W.Fast.tw4186442854152763996:Unit:=()
def PySem.W.Fast.tw3599473526209805270:Unit:=()
def PySem.W.Fast.tw406585551432439358:Unit:=()
def PySem.W.Fast.tw15173544634269141363:Unit:=()
def PySem.W.Fast.tw9856994082585095281:Unit:=()
def PySem.W.Fast.tw7103488360110538318:Unit:=()
def PySem.W.Fast.tw3517153222997921536:Unit:=()
def PySem.W.Fast.tw5047785416961737103:Unit:=()
def PySem.W.Fast.tw4499591571679346537:Unit:=()
def PySem.W.Fast.tw3807663079738857262:Unit:=()
def PySem.W.Fast.tw8251194627557088777:Unit:=()
def PySem.W.Fast.tw11807703278814894952:Unit:=()
def PySem.W.Fast.tw8452225233461360151:Unit:=()
def PySem.W.Fast.tw17538396114387150165:Unit:=()
def PySem.W.Fast.tw8670746168504111743:Unit:=()
def PySem.W.Fast.tw9684573668409107688:Unit:=()
def PySem.W.Fast.tw13358637350341974756:Unit:=()
def PySem.W.Fast.tw15000040769201239131:Unit:=()
def PySem.W.Fast.tw439744051083583752:Unit:=()
def PySem.W.Fast.tw1770454123647602364:Unit:=()
def PySem.W.Fast.tw18234978857711201372:Unit:=()
def PySem.W.Fast.tw1886047455991038698:Unit:=()
def PySem.W.Fast.tw7999089797643253972:Unit:=()
def PySem.W.Fast.tw6645757350648883170:Unit:=()
def PySem.W.Fast.tw17647287023148479920:Unit:=()
def PySem.W.Fast.tw1043971344543290195:Unit:=()
def PySem.W.Fast.tw13927561178553203513:Unit:=()
def PySem.W.Fast.tw3728781551772588741:Unit:=()
def PySem.W.Fast.tw17810084121423167307:Unit:=()
def PySem.W.Fast.tw4607285224941517922:Unit:=()
def PySem.W.Fast.tw1988021823349584844:Unit:=()
def PySem.W.Fast.tw7945950228253011450:Unit:=()
def PySem.W.Fast.tw4656158894448910816:Unit:=()
def PySem.W.Fast.tw15611165366858348736:Unit:=()
def PySem.W.Fast.tw14186722355744297109:Unit:=()
def PySem.W.Fast.tw9279163985503447668:Unit:=()
def PySem.W.Fast.tw3806433640557143968:Unit:=()
def PySem.W.Fast.tw12844017428721984513:Unit:=()
def PySem.W.Fast.tw4637115225213360647:Unit:=()
def PySem.W.Fast.tw6522007733930322414:Unit:=()
def PySem.W.Fast.tw15791761477953417998:Unit:=()
def PySem.W.Fast.tw11012089405827304755:Unit:=()
def PySem.W.Fast.tw1203968116866377722:Unit:=()
def PySem.W.Fast.tw4498626207284814745:Unit:=()
def PySem.W.Fast.tw6195060860165884324:Unit:=()
def PySem.W.Fast.tw877973842746980426:Unit:=()
def PySem.W.Fast.tw17456728148764376603:Unit:=()
def PySem.W.Fast.tw16248434616557456295:Unit:=()
def PySem.W.Fast.tw4943465645012323947:Unit:=()
def PySem.W.Fast.tw1556255897555120376:Unit:=()
def PySem.W.Fast.tw8773502989641464466:Unit:=()
def PySem.W.Fast.tw13404693280639409465:Unit:=()
def PySem.W.Fast.tw7057031829412784753:Unit:=()
def PySem.W.Fast.tw8013203937423610334:Unit:=()
def PySem.W.Fast.tw14031016374744672384:Unit:=()
def PySem.W.Fast.tw8017815113524859481:Unit:=()
def PySem.W.Fast.tw4976685219333704470:Unit:=()
def PySem.W.Fast.tw14996987396213898256:Unit:=()
def PySem.W.Fast.tw1318600293061040944:Unit:=()
def PySem.W.Fast.tw818051719618968969:Unit:=()
def PySem.W.Fast.tw15060406847169454936:Unit:=()
def PySem.W.Fast.tw4692209875027602097:Unit:=()
def PySem.W.Fast.tw16964692763867064596:Unit:=()
def PySem.W.Fast.tw912842284221453194:Unit:=()
def PySem.W.Fast.tw11053895365690673231:Unit:=()
def PySem.W.Fast.tw17879515560878585149:Unit:=()
def PySem.W.Fast.tw17190887808274891731:Unit:=()
def PySem.W.Fast.tw15252193030846113463:Unit:=()
def PySem.W.Fast.tw1290846534704383878:Unit:=()
def PySem.W.Fast.tw748321691858805993:Unit:=()
def PySem.W.Fast.tw13122115819490328749:Unit:=()
def PySem.W.Fast.tw13979920645712346874:Unit:=()
def PySem.W.Fast.tw16070259374577052375:Unit:=()
def PySem.W.Fast.tw4960984116580096072:Unit:=()
def PySem.W.Fast.tw10505887922469667491:Unit:=()
def PySem.W.Fast.tw16209982017964278762:Unit:=()
def PySem.W.Fast.tw677129064417551877:Unit:=()
def PySem.W.Fast.tw4669516325579997198:Unit:=()
def PySem.W.Fast.tw15939957557110041479:Unit:=()
def PySem.W.Fast.tw11611009723736085535:Unit:=()
def PySem.W.Fast.tw2802889738746431315:Unit:=()
def PySem.W.Fast.tw7770407960274294657:Unit:=()
def PySem.W.Fast.tw11353218994056879594:Unit:=()
def PySem.W.Fast.tw11223481611902834808:Unit:=()
def PySem.W.Fast.tw5148311280873086252:Unit:=()
def PySem.W.Fast.tw17664985293911850803:Unit:=()
def PySem.W.Fast.tw16836151314428933616:Unit:=()
def PySem.W.Fast.tw18143483937957532080:Unit:=()
def PySem.W.Fast.tw11968548541255970265:Unit:=()
def PySem.W.Fast.tw16104768583933352449:Unit:=()
def PySem.W.Fast.tw14417656362160444342:Unit:=()
def PySem.W.Fast.tw10584398653096835506:Unit:=()
def PySem.W.Fast.tw9328091729792073411:Unit:=()
def PySem.W.Fast.tw7283475313870724486:Unit:=()
def PySem.W.Fast.tw6543276169110023655:Unit:=()
def PySem.W.Fast.tw1368436448164778919:Unit:=()
def PySem.W.Fast.tw11285356304296386940:Unit:=()
def PySem.W.Fast.tw6744863264496695646:Unit:=()
def PySem.W.Fast.tw16970146809935315389:Unit:=()
def PySem.W.Fast.tw13942493962866096476:Unit:=()
def PySem.W.Fast.tw9268642794223473435:Unit:=()
def PySem.W.Fast.tw2789467345722340071:Unit:=()
def PySem.W.Fast.tw649302639521666745:Unit:=()
def PySem.W.Fast.tw9444910460380997767:Unit:=()
def PySem.W.Fast.tw17053297106401747131:Unit:=()
def PySem.W.Fast.tw8405286530877099332:Unit:=()
def PySem.W.Fast.tw7700778818801509491:Unit:=()
def PySem.W.Fast.tw4762466833446794686:Unit:=()
def PySem.W.Fast.tw11383032507490176063:Unit:=()
def PySem.W.Fast.tw8725796606850000632:Unit:=()
def PySem.W.Fast.tw13033752364940179373:Unit:=()
def PySem.W.Fast.tw10345469076999729466:Unit:=()
def PySem.W.Fast.tw11761954168963110735:Unit:=()
def PySem.W.Fast.tw3347467342766336643:Unit:=()
def PySem.W.Fast.tw13187790272366352766:Unit:=()
def PySem.W.Fast.tw12555346823491577738:Unit:=()
def PySem.W.Fast.tw14743889979523063243:Unit:=()
def PySem.W.Fast.tw16419330848903695609:Unit:=()
def PySem.W.Fast.tw8475046082283093945:Unit:=()
def PySem.W.Fast.tw10906338058254142425:Unit:=()
def PySem.W.Fast.tw9353740399049352786:Unit:=()
def PySem.W.Fast.tw7428455507140338522:Unit:=()
def PySem.W.Fast.tw3723981009014839525:Unit:=()
def PySem.W.Fast.tw10948687684722886977:Unit:=()
def PySem.W.Fast.tw15770111260863107154:Unit:=()
def PySem.W.Fast.tw16161825611752090543:Unit:=()
def PySem.W.Fast.tw14618897494620581737:Unit:=()
def PySem.W.Fast.tw4811219667012921914:Unit:=()
def PySem.W.Fast.tw2451388222620556843:Unit:=()
def PySem.W.Fast.tw3854859357543298080:Unit:=()
def PySem.W.Fast.tw8061665857963572224:Unit:=()
def PySem.W.Fast.tw17186102865374601817:Unit:=()
def PySem.W.Fast.tw15852517024110003984:Unit:=()
def PySem.W.Fast.tw5314259154385079145:Unit:=()
def PySem.W.Fast.tw5754502167086673488:Unit:=()
def PySem.W.Fast.tw13436795924513162260:Unit:=()
def PySem.W.Fast.tw7304650164492230333:Unit:=()
def PySem.W.Fast.tw6651964678810088508:Unit:=()
def PySem.W.Fast.tw16517703600522215111:Unit:=()
def PySem.W.Fast.tw300345936263113954:Unit:=()
def PySem.W.Fast.tw8951719949311533726:Unit:=()
def PySem.W.Fast.tw9002779426299206639:Unit:=()
def PySem.W.Fast.tw13846799229069665239:Unit:=()
def PySem.W.Fast.tw15746705084275451061:Unit:=()
def PySem.W.Fast.tw10043172527310572268:Unit:=()
def PySem.W.Fast.tw14196237875923067739:Unit:=()
def PySem.W.Fast.tw16643916730248126795:Unit:=()
def PySem.W.Fast.tw11910810857664373578:Unit:=()
def PySem.W.Fast.tw17048246888115667405:Unit:=()
def PySem.W.Fast.tw17031922702933394305:Unit:=()
def PySem.W.Fast.tw2852705852807793880:Unit:=()
def PySem.W.Fast.tw11252185154610056764:Unit:=()
def PySem.W.Fast.tw8822872812264438547:Unit:=()
def PySem.W.Fast.tw8708436835927553070:Unit:=()
def PySem.W.Fast.tw9408456652566152647:Unit:=()
def PySem.W.Fast.tw15832082868939525439:Unit:=()
def PySem.W.Fast.tw6124512609552306305:Unit:=()
def PySem.W.Fast.tw4202041252802940546:Unit:=()
def PySem.W.Fast.tw3405689007657996885:Unit:=()
def PySem.W.Fast.tw7155836481729717004:Unit:=()
def PySem.W.Fast.tw15171078308636225959:Unit:=()
def PySem.W.Fast.tw18299947895743589957:Unit:=()
def PySem.W.Fast.tw6094651989599934376:Unit:=()
def PySem.W.Fast.tw5629910467243177451:Unit:=()
def PySem.W.Fast.tw12246671762600502363:Unit:=()
def PySem.W.Fast.tw15592043277507620681:Unit:=()
def PySem.W.Fast.tw12181905583876720748:Unit:=()
def PySem.W.Fast.tw7646211376394000302:Unit:=()
def PySem.W.Fast.tw6503291619213278318:Unit:=()
def PySem.W.Fast.tw5434642611837034037:Unit:=()
def PySem.W.Fast.tw10040426291554253239:Unit:=()
def PySem.W.Fast.tw8247283598670693477:Unit:=()
def PySem.W.Fast.tw17840325410534039816:Unit:=()
def PySem.W.Fast.tw12272705798957894808:Unit:=()
def PySem.W.Fast.tw4488426682427201801:Unit:=()
def PySem.W.Fast.tw3499683669615501597:Unit:=()
def PySem.W.Fast.tw15284218838725485159:Unit:=()
def PySem.W.Fast.tw11884132473069044524:Unit:=()
def PySem.W.Fast.tw3668657576492490620:Unit:=()
def PySem.W.Fast.tw14886466468898134763:Unit:=()
def PySem.W.Fast.tw12774378561959496887:Unit:=()
def PySem.W.Fast.tw13014986848125801637:Unit:=()
def PySem.W.Fast.tw16391679215426491310:Unit:=()
def PySem.W.Fast.tw5566683319875619517:Unit:=()
def PySem.W.Fast.tw9312357312502890390:Unit:=()
def PySem.W.Fast.tw8753835213082195830:Unit:=()
def PySem.W.Fast.tw12967386120953529413:Unit:=()
def PySem.W.Fast.tw6437741466319992646:Unit:=()
def PySem.W.Fast.tw5539019690014609373:Unit:=()
def PySem.W.Fast.tw16810778439315175625:Unit:=()
def PySem.W.Fast.tw17721951752286931247:Unit:=()
def PySem.W.Fast.tw11528932495242541198:Unit:=()
def PySem.W.Fast.tw4136186476790536309:Unit:=()
def PySem.W.Fast.tw10263811970369606887:Unit:=()
def PySem.W.Fast.tw16536626215637808298:Unit:=()
def PySem.W.Fast.tw16647921115521630108:Unit:=()
def PySem.W.Fast.tw12812341245061157630:Unit:=()
def PySem.W.Fast.tw4259464961457683543:Unit:=()
def PySem.W.Fast.tw380465626417914398:Unit:=()
def PySem.W.Fast.tw5427959786318610940:Unit:=()
set_option Elab.async false
set_option linter.all false
set_option maxRecDepth 100000
set_option maxHeartbeats 8000000
namespace K19
open PySem L2
theorem T_mk {K:PySem.W.Frag}{mg:Str→Option Value}{h:Heap}{AL LN RU PL CO fE fH rR rP iR iP wP iC cH cE cT cW iX SE NG NN NO NR NL NS NT NX NV TM UL:Addr}  {n_AL:Nat}{osl_AL:Array (Option Value)}{t_AL0 t_AL1 t_AL2 t_AL3 t_AL4 t_AL5:Tok}  {n_LN:Nat}{osl_LN:Array (Option Value)}{t_LN0 t_LN1 t_LN2 t_LN3 t_LN4 t_LN5 t_LN6:Tok}  {tk_mr:Tok}{tk_mf:Tok}{tk_fg:Tok}            {oc_RI kV_RI doc_RI pm_RI cdv_RI ct_RI:Value}{od_RI an_RI:Option Addr}{osl_RI:Array (Option Value)}{oc_H kV_H doc_H pm_H cdv_H ct_H:Value}{od_H an_H:Option Addr}{osl_H:Array (Option Value)}{oc_E kV_E doc_E pm_E cdv_E ct_E:Value}{od_E an_E:Option Addr}{osl_E:Array (Option Value)}{oc_RR kV_RR doc_RR pm_RR cdv_RR ct_RR:Value}{od_RR an_RR:Option Addr}{osl_RR:Array (Option Value)}{oc_PI kV_PI doc_PI pm_PI cdv_PI ct_PI:Value}{od_PI an_PI:Option Addr}{osl_PI:Array (Option Value)}{oc_PR kV_PR doc_PR pm_PR cdv_PR ct_PR:Value}{od_PR an_PR:Option Addr}{osl_PR:Array (Option Value)}{oc_PlW kV_PlW doc_PlW pm_PlW cdv_PlW ct_PlW:Value}{od_PlW an_PlW:Option Addr}{osl_PlW:Array (Option Value)}{oc_CI kV_CI doc_CI pm_CI cdv_CI ct_CI:Value}{od_CI an_CI:Option Addr}{osl_CI:Array (Option Value)}{oc_CHs kV_CHs doc_CHs pm_CHs cdv_CHs ct_CHs:Value}{od_CHs an_CHs:Option Addr}{osl_CHs:Array (Option Value)}{oc_CEn kV_CEn doc_CEn pm_CEn cdv_CEn ct_CEn:Value}{od_CEn an_CEn:Option Addr}{osl_CEn:Array (Option Value)}{oc_CTb kV_CTb doc_CTb pm_CTb cdv_CTb ct_CTb:Value}{od_CTb an_CTb:Option Addr}{osl_CTb:Array (Option Value)}{oc_CWo kV_CWo doc_CWo pm_CWo cdv_CWo ct_CWo:Value}{od_CWo an_CWo:Option Addr}{osl_CWo:Array (Option Value)}{oc_XI kV_XI doc_XI pm_XI cdv_XI ct_XI:Value}{od_XI an_XI:Option Addr}{osl_XI:Array (Option Value)}  {nmX qnX:Str}{nsX:Addr}{bsX:List Value}{hdX:Bool}{snX:List Str}{subX:List Value}{abX:Bool}{colX:Option Bool}{ddX:Option Addr}{k0X k1X k2X k3X k5X:Option Value}     (X:K.In h) (G:h.Ns mainGlobals mg)
    (b_isi:PySem.W.nsIn K mainGlobals "isinstance"=some none)
    (b_int:PySem.W.nsIn K mainGlobals "int"=some none)
    (b_bool:PySem.W.nsIn K mainGlobals "bool"=some none)
    (b_range:PySem.W.nsIn K mainGlobals "range"=some none)
    (b_len:PySem.W.nsIn K mainGlobals "len"=some none)
    (b_list:PySem.W.nsIn K mainGlobals "list"=some none)
    (b_ve:PySem.W.nsIn K mainGlobals "ValueError"=some none)
    (b_sum:PySem.W.nsIn K mainGlobals "sum"=some none)
    (b_all:PySem.W.nsIn K mainGlobals "all"=some none)
    (b_any:PySem.W.nsIn K mainGlobals "any"=some none)
    (b_zip:PySem.W.nsIn K mainGlobals "zip"=some none)
    (b_tuple:PySem.W.nsIn K mainGlobals "tuple"=some none)
    (b_min:PySem.W.nsIn K mainGlobals "min"=some none)
    (b_abs:PySem.W.nsIn K mainGlobals "abs"=some none)
    (b_enum:PySem.W.nsIn K mainGlobals "enumerate"=some none)
    (b_str:PySem.W.nsIn K mainGlobals "str"=some none)
    (mAL:PySem.W.nsIn K mainGlobals "ALONE"=some (some (.ref AL)))
    (lkAL:K.lookup AL=some ⟨.type "tuple",none,.seq #[.int 1 t_AL0,.int 2 t_AL1,.int 4 t_AL2,.int 8 t_AL3,.int 16 t_AL4,.int 32 t_AL5] n_AL,osl_AL⟩)
    (mLN:PySem.W.nsIn K mainGlobals "LENGTHS"=some (some (.ref LN)))
    (lkLN:K.lookup LN=some ⟨.type "tuple",none,.seq #[.int 1 t_LN0,.int 2 t_LN1,.int 4 t_LN2,.int 8 t_LN3,.int 16 t_LN4,.int 32 t_LN5,.int 64 t_LN6] n_LN,osl_LN⟩)
    (mr:PySem.W.nsIn K mainGlobals "MOST_RULES"=some (some (.int 12 tk_mr)))
    (mf:PySem.W.nsIn K mainGlobals "MOST_FIGURES"=some (some (.int 30 tk_mf)))
    (fg:PySem.W.nsIn K mainGlobals "FIGURES"=some (some (.str ("0123456789":Str) tk_fg)))
    (mRU:PySem.W.nsIn K mainGlobals "Rule"=some (some (.ref RU)))
    (pgRU:PySem.W.plainGet K RU Str.empty=true)
    (hdRU:PySem.W.hasDictIn K RU=true)
    (poRU:PySem.W.plainOver K RU=true)
    (saRU:PySem.W.findIn K (.ref RU) "__setattr__"=some (some (.builtin "object.__setattr__")))
    (caRU:PySem.W.findIn K (.ref RU) "__class__"=some (some (.builtin "object.__class__")))
    (moRU:PySem.W.mroIn K RU (.type "object")=some true)
    (nmRU:PySem.W.findIn K (.ref RU) "many"=some none)
    (feRU:PySem.W.findIn K (.ref RU) "earn"=some (some (.ref fE)))
    (fhRU:PySem.W.findIn K (.ref RU) "hands"=some (some (.ref fH)))
    (frRU:PySem.W.findIn K (.ref RU) "reckon"=some (some (.ref rR)))
    (irRU:PySem.W.kitOne K (.ref RU) (.ref RU)=some true)
    (mkRU:PySem.W.makesIn K RU=true)
    (fiRU:PySem.W.findIn K (.ref RU) "__init__"=some (some (.ref iR)))
    (kkRU:PySem.W.keepIn K (.ref RU)=true)
    (mPL:PySem.W.nsIn K mainGlobals "Plain"=some (some (.ref PL)))
    (pgPL:PySem.W.plainGet K PL Str.empty=true)
    (hdPL:PySem.W.hasDictIn K PL=true)
    (poPL:PySem.W.plainOver K PL=true)
    (saPL:PySem.W.findIn K (.ref PL) "__setattr__"=some (some (.builtin "object.__setattr__")))
    (caPL:PySem.W.findIn K (.ref PL) "__class__"=some (some (.builtin "object.__class__")))
    (moPL:PySem.W.mroIn K PL (.type "object")=some true)
    (nmPL:PySem.W.findIn K (.ref PL) "many"=some none)
    (fePL:PySem.W.findIn K (.ref PL) "earn"=some (some (.ref fE)))
    (fhPL:PySem.W.findIn K (.ref PL) "hands"=some (some (.ref fH)))
    (frPL:PySem.W.findIn K (.ref PL) "reckon"=some (some (.ref rP)))
    (irPL:PySem.W.kitOne K (.ref PL) (.ref RU)=some true)
    (mkPL:PySem.W.makesIn K PL=true)
    (fiPL:PySem.W.findIn K (.ref PL) "__init__"=some (some (.ref iP)))
    (kkPL:PySem.W.keepIn K (.ref PL)=true)
    (nf0PL:PySem.W.findIn K (.ref PL) "earnings"=some none)
    (mCO:PySem.W.nsIn K mainGlobals "Company"=some (some (.ref CO)))
    (pgCO:PySem.W.plainGet K CO Str.empty=true)
    (hdCO:PySem.W.hasDictIn K CO=true)
    (poCO:PySem.W.plainOver K CO=true)
    (saCO:PySem.W.findIn K (.ref CO) "__setattr__"=some (some (.builtin "object.__setattr__")))
    (caCO:PySem.W.findIn K (.ref CO) "__class__"=some (some (.builtin "object.__class__")))
    (moCO:PySem.W.mroIn K CO (.type "object")=some true)
    (nmCO:PySem.W.findIn K (.ref CO) "many"=some none)
    (nrCO:PySem.W.findIn K (.ref CO) "rules"=some none)
    (feCO:PySem.W.findIn K (.ref CO) "earn"=some (some (.ref cE)))
    (fhCO:PySem.W.findIn K (.ref CO) "hands"=some (some (.ref cH)))
    (ftCO:PySem.W.findIn K (.ref CO) "table"=some (some (.ref cT)))
    (fwCO:PySem.W.findIn K (.ref CO) "words"=some (some (.ref cW)))
    (mkCO:PySem.W.makesIn K CO=true)
    (fiCO:PySem.W.findIn K (.ref CO) "__init__"=some (some (.ref iC)))
    (kkCO:PySem.W.keepIn K (.ref CO)=true)
    (ffwPL:PySem.W.findIn K (.ref PL) "words"=some (some (.ref wP)))
    (lRI:K.lookup iR=some ⟨oc_RI,od_RI,.func (PySem.W.fnOf "__init__" "Rule.__init__" (defArgs sRI) (defBody sRI) (defScope sRI) .none kV_RI doc_RI pm_RI an_RI cdv_RI ct_RI),osl_RI⟩)
    (cdRI:PySem.W.codeIn K cdv_RI "Rule.__init__"=true)
    (kpRI:PySem.W.keepIn K (.ref iR)=true)
    (fnRI:PySem.W.isFn K (.ref iR)=true)
    (lH:K.lookup fH=some ⟨oc_H,od_H,.func (PySem.W.fnOf "hands" "Rule.hands" (defArgs sHs) (defBody sHs) (defScope sHs) .none kV_H doc_H pm_H an_H cdv_H ct_H),osl_H⟩)
    (cdH:PySem.W.codeIn K cdv_H "Rule.hands"=true)
    (kpH:PySem.W.keepIn K (.ref fH)=true)
    (fnH:PySem.W.isFn K (.ref fH)=true)
    (lE:K.lookup fE=some ⟨oc_E,od_E,.func (PySem.W.fnOf "earn" "Rule.earn" (defArgs sErn) (defBody sErn) (defScope sErn) .none kV_E doc_E pm_E an_E cdv_E ct_E),osl_E⟩)
    (cdE:PySem.W.codeIn K cdv_E "Rule.earn"=true)
    (kpE:PySem.W.keepIn K (.ref fE)=true)
    (fnE:PySem.W.isFn K (.ref fE)=true)
    (lRR:K.lookup rR=some ⟨oc_RR,od_RR,.func (PySem.W.fnOf "reckon" "Rule.reckon" (defArgs sRR) (defBody sRR) (defScope sRR) .none kV_RR doc_RR pm_RR an_RR cdv_RR ct_RR),osl_RR⟩)
    (cdRR:PySem.W.codeIn K cdv_RR "Rule.reckon"=true)
    (kpRR:PySem.W.keepIn K (.ref rR)=true)
    (fnRR:PySem.W.isFn K (.ref rR)=true)
    (lPI:K.lookup iP=some ⟨oc_PI,od_PI,.func (PySem.W.fnOf "__init__" "Plain.__init__" (defArgs sPI) (defBody sPI) (defScope sPI) .none kV_PI doc_PI pm_PI an_PI cdv_PI ct_PI),osl_PI⟩)
    (cdPI:PySem.W.codeIn K cdv_PI "Plain.__init__"=true)
    (kpPI:PySem.W.keepIn K (.ref iP)=true)
    (fnPI:PySem.W.isFn K (.ref iP)=true)
    (lPR:K.lookup rP=some ⟨oc_PR,od_PR,.func (PySem.W.fnOf "reckon" "Plain.reckon" (defArgs sPR) (defBody sPR) (defScope sPR) .none kV_PR doc_PR pm_PR an_PR cdv_PR ct_PR),osl_PR⟩)
    (cdPR:PySem.W.codeIn K cdv_PR "Plain.reckon"=true)
    (kpPR:PySem.W.keepIn K (.ref rP)=true)
    (fnPR:PySem.W.isFn K (.ref rP)=true)
    (lPlW:K.lookup wP=some ⟨oc_PlW,od_PlW,.func (PySem.W.fnOf "words" "Plain.words" (defArgs sPlW) (defBody sPlW) (defScope sPlW) .none kV_PlW doc_PlW pm_PlW an_PlW cdv_PlW ct_PlW),osl_PlW⟩)
    (cdPlW:PySem.W.codeIn K cdv_PlW "Plain.words"=true)
    (kpPlW:PySem.W.keepIn K (.ref wP)=true)
    (fnPlW:PySem.W.isFn K (.ref wP)=true)
    (lCI:K.lookup iC=some ⟨oc_CI,od_CI,.func (PySem.W.fnOf "__init__" "Company.__init__" (defArgs sCI) (defBody sCI) (defScope sCI) .none kV_CI doc_CI pm_CI an_CI cdv_CI ct_CI),osl_CI⟩)
    (cdCI:PySem.W.codeIn K cdv_CI "Company.__init__"=true)
    (kpCI:PySem.W.keepIn K (.ref iC)=true)
    (fnCI:PySem.W.isFn K (.ref iC)=true)
    (lCHs:K.lookup cH=some ⟨oc_CHs,od_CHs,.func (PySem.W.fnOf "hands" "Company.hands" (defArgs sCH) (defBody sCH) (defScope sCH) .none kV_CHs doc_CHs pm_CHs an_CHs cdv_CHs ct_CHs),osl_CHs⟩)
    (cdCHs:PySem.W.codeIn K cdv_CHs "Company.hands"=true)
    (kpCHs:PySem.W.keepIn K (.ref cH)=true)
    (fnCHs:PySem.W.isFn K (.ref cH)=true)
    (lCEn:K.lookup cE=some ⟨oc_CEn,od_CEn,.func (PySem.W.fnOf "earn" "Company.earn" (defArgs sCE) (defBody sCE) (defScope sCE) .none kV_CEn doc_CEn pm_CEn an_CEn cdv_CEn ct_CEn),osl_CEn⟩)
    (cdCEn:PySem.W.codeIn K cdv_CEn "Company.earn"=true)
    (kpCEn:PySem.W.keepIn K (.ref cE)=true)
    (fnCEn:PySem.W.isFn K (.ref cE)=true)
    (lCTb:K.lookup cT=some ⟨oc_CTb,od_CTb,.func (PySem.W.fnOf "table" "Company.table" (defArgs sCT) (defBody sCT) (defScope sCT) .none kV_CTb doc_CTb pm_CTb an_CTb cdv_CTb ct_CTb),osl_CTb⟩)
    (cdCTb:PySem.W.codeIn K cdv_CTb "Company.table"=true)
    (kpCTb:PySem.W.keepIn K (.ref cT)=true)
    (fnCTb:PySem.W.isFn K (.ref cT)=true)
    (lCWo:K.lookup cW=some ⟨oc_CWo,od_CWo,.func (PySem.W.fnOf "words" "Company.words" (defArgs sCW) (defBody sCW) (defScope sCW) .none kV_CWo doc_CWo pm_CWo an_CWo cdv_CWo ct_CWo),osl_CWo⟩)
    (cdCWo:PySem.W.codeIn K cdv_CWo "Company.words"=true)
    (kpCWo:PySem.W.keepIn K (.ref cW)=true)
    (fnCWo:PySem.W.isFn K (.ref cW)=true)
    (lXI:K.lookup iX=some ⟨oc_XI,od_XI,.func (PySem.W.fnOf "__init__" "NoText.__init__" (defArgs sXI) (defBody sXI) (defScope sXI) .none kV_XI doc_XI pm_XI an_XI cdv_XI ct_XI),osl_XI⟩)
    (cdXI:PySem.W.codeIn K cdv_XI "NoText.__init__"=true)
    (kpXI:PySem.W.keepIn K (.ref iX)=true)
    (fnXI:PySem.W.isFn K (.ref iX)=true)
    (cgcRI:PySem.W.specialIn K (.ref RU) "__getattribute__"=some (some (.builtin "type.__getattribute__")))
    (crcRI:PySem.W.readsIn K RU (.type "type")=true)
    (cfcRI:PySem.W.findCls K (.ref RU) (.type "type") "__init__"=some (.val (.ref iR)))
    (obX:List.lookup NX K=some (excClassObj nmX qnX NX nsX bsX (.ref SE::bmV) hdX snX subX abX colX ddX k0X k1X k2X k3X k5X "ValueError.__new__"))
    (fiX:PySem.W.findIn K (.ref NX) "__init__"=some (some (.ref iX)))
    (kkX:PySem.W.keepIn K (.ref NX)=true)
    (saX:PySem.W.findIn K (.ref NX) "__setattr__"=some (some (.builtin "object.__setattr__")))
    (hsX:PySem.W.hasDictIn K NX=true)
    (ptX:PySem.W.findIn K (.ref NX) "part"=some none)
    (uNL:PySem.W.mroIn K NL (.ref NL)=some true)
    (uNX:PySem.W.mroIn K NX (.ref NX)=some true)
    (gaS:PySem.W.specialIn K (.ref SE) "__getattribute__"=some (some (.builtin "type.__getattribute__")))
    (rdS:PySem.W.readsIn K SE (.type "type")=true)
    (atS:PySem.W.findCls K (.ref SE) (.type "type") "__init__"=some (.val (.builtin "ValueError.__init__")))
    (mSE:PySem.W.nsIn K mainGlobals "ShareError"=some (some (.ref SE)))
    (mNG:PySem.W.nsIn K mainGlobals "NoGroup"=some (some (.ref NG)))
    (mNN:PySem.W.nsIn K mainGlobals "NoNumber"=some (some (.ref NN)))
    (mNO:PySem.W.nsIn K mainGlobals "NoOrder"=some (some (.ref NO)))
    (mNR:PySem.W.nsIn K mainGlobals "NoRows"=some (some (.ref NR)))
    (mNL:PySem.W.nsIn K mainGlobals "NoRule"=some (some (.ref NL)))
    (mNS:PySem.W.nsIn K mainGlobals "NoShares"=some (some (.ref NS)))
    (mNT:PySem.W.nsIn K mainGlobals "NoTable"=some (some (.ref NT)))
    (mNX:PySem.W.nsIn K mainGlobals "NoText"=some (some (.ref NX)))
    (mNV:PySem.W.nsIn K mainGlobals "NoVotes"=some (some (.ref NV)))
    (mTM:PySem.W.nsIn K mainGlobals "TooMany"=some (some (.ref TM)))
    (mUL:PySem.W.nsIn K mainGlobals "Unlike"=some (some (.ref UL)))
    (c6:PySem.W.specialIn K (.builtin "object.__class__") "__get__"=some (some (.builtin "getset_descriptor.__get__")))
    (c7:PySem.W.takesIn K (.builtin "object.__class__")=some true)
    (SE2:PySem.W.typeIn K (.ref SE)=some (.type "type"))
    (SE3:PySem.W.findIn K (.ref SE) "__getattribute__"=some (some (.builtin "BaseException.__getattribute__")))
    (SE4:PySem.W.findIn K (.ref SE) "__getattr__"=some none)
    (SE5:PySem.W.findIn K (.ref SE) "__class__"=some (some (.builtin "object.__class__")))
    (SE8:PySem.W.mroIn K SE (.type "object")=some true)
    (SE9:PySem.W.mroIn K SE (.type "BaseException")=some true)
    (NL2:PySem.W.typeIn K (.ref NL)=some (.type "type"))
    (NL3:PySem.W.findIn K (.ref NL) "__getattribute__"=some (some (.builtin "BaseException.__getattribute__")))
    (NL4:PySem.W.findIn K (.ref NL) "__getattr__"=some none)
    (NL5:PySem.W.findIn K (.ref NL) "__class__"=some (some (.builtin "object.__class__")))
    (NL8:PySem.W.mroIn K NL (.type "object")=some true)
    (NL9:PySem.W.mroIn K NL (.type "BaseException")=some true)
    (NX2:PySem.W.typeIn K (.ref NX)=some (.type "type"))
    (NX3:PySem.W.findIn K (.ref NX) "__getattribute__"=some (some (.builtin "BaseException.__getattribute__")))
    (NX4:PySem.W.findIn K (.ref NX) "__getattr__"=some none)
    (NX5:PySem.W.findIn K (.ref NX) "__class__"=some (some (.builtin "object.__class__")))
    (NX8:PySem.W.mroIn K NX (.type "object")=some true)
    (NX9:PySem.W.mroIn K NX (.type "BaseException")=some true)
    (NT2:PySem.W.typeIn K (.ref NT)=some (.type "type"))
    (NT3:PySem.W.findIn K (.ref NT) "__getattribute__"=some (some (.builtin "BaseException.__getattribute__")))
    (NT4:PySem.W.findIn K (.ref NT) "__getattr__"=some none)
    (NT5:PySem.W.findIn K (.ref NT) "__class__"=some (some (.builtin "object.__class__")))
    (NT8:PySem.W.mroIn K NT (.type "object")=some true)
    (NT9:PySem.W.mroIn K NT (.type "BaseException")=some true)
    (xNT:PySem.W.excIn K NT bmV "ValueError.__new__"=true)
    (up:PySem.W.mroIn K NT (.ref SE)=some true)
    (k1:PySem.W.kitOne K (.ref NT) (.ref NT)=some true)
    (k2:PySem.W.kitOne K (.ref NT) (.type "ValueError")=some true)
    (k3:PySem.W.kitAny K (.ref NT) [.ref NG,.ref NN,.ref NO,.ref NR,.ref NL]=some false)
    (k4:PySem.W.kitAny K (.ref NT) [.ref NS,.ref NX,.ref NV,.ref TM,.ref UL]=some false)
    (xNL:PySem.W.excIn K NL bmV "ValueError.__new__"=true)
    (xNG:PySem.W.excIn K NG bmV "ValueError.__new__"=true)
    (xUL:PySem.W.excIn K UL bmV "ValueError.__new__"=true)
    (xTM:PySem.W.excIn K TM bmV "ValueError.__new__"=true)
    (xSE:PySem.W.excIn K SE bmV "ValueError.__new__"=true) :
    ∃AL LN RU PL CO fE fH rR rP iR iP wP iC cH cE cT cW iX SE NG NN NO NR NL NS NT NX NV TM UL,T K mg AL LN RU PL CO fE fH rR rP iR iP wP iC cH cE cT cW iX SE NG NN NO NR NL NS NT NX NV TM UL :=
  ⟨AL,LN,RU,PL,CO,fE,fH,rR,rP,iR,iP,wP,iC,cH,cE,cT,cW,iX,SE,NG,NN,NO,NR,NL,NS,NT,NX,NV,TM,UL,PySem.W.mg_none_of X G b_isi,PySem.W.mg_none_of X G b_int,PySem.W.mg_none_of X G b_bool,PySem.W.mg_none_of X G b_range,PySem.W.mg_none_of X G b_len,PySem.W.mg_none_of X G b_list,PySem.W.mg_none_of X G b_ve,PySem.W.mg_none_of X G b_sum,PySem.W.mg_none_of X G b_all,PySem.W.mg_none_of X G b_any,PySem.W.mg_none_of X G b_zip,PySem.W.mg_none_of X G b_tuple,PySem.W.mg_none_of X G b_min,PySem.W.mg_none_of X G b_abs,PySem.W.mg_none_of X G b_enum,PySem.W.mg_none_of X G b_str,PySem.W.mg_of X G mAL,fun _=>.inr ⟨_,_,_,lkAL,rfl,rfl,by show 6≤sizeLine;decide,.cons ⟨_,rfl⟩ (.cons ⟨_,rfl⟩ (.cons ⟨_,rfl⟩ (.cons ⟨_,rfl⟩ (.cons ⟨_,rfl⟩ (.cons ⟨_,rfl⟩ .nil)))))⟩,PySem.W.mg_of X G mLN,fun _=>.inr ⟨_,_,_,lkLN,rfl,rfl,by show 7≤sizeLine;decide,.cons ⟨_,rfl⟩ (.cons ⟨_,rfl⟩ (.cons ⟨_,rfl⟩ (.cons ⟨_,rfl⟩ (.cons ⟨_,rfl⟩ (.cons ⟨_,rfl⟩ (.cons ⟨_,rfl⟩ .nil))))))⟩,⟨_,lkLN,rfl,rfl⟩,⟨tk_mr,PySem.W.mg_of X G mr⟩,⟨tk_mf,PySem.W.mg_of X G mf⟩,⟨tk_fg,PySem.W.mg_of X G fg⟩,PySem.W.mg_of X G mRU,⟨⟨⟨pgRU,hdRU,poRU,saRU⟩,caRU,c6,c7,moRU⟩,nmRU,⟨feRU,fnE,kpE⟩,⟨fhRU,fnH,kpH⟩,⟨frRU,fnRR,kpRR⟩,irRU⟩,⟨mkRU,fiRU,fnRI,kkRU⟩,PySem.W.mg_of X G mPL,⟨⟨⟨pgPL,hdPL,poPL,saPL⟩,caPL,c6,c7,moPL⟩,nmPL,⟨fePL,fnE,kpE⟩,⟨fhPL,fnH,kpH⟩,⟨frPL,fnPR,kpPR⟩,irPL⟩,⟨mkPL,fiPL,fnPI,kkPL⟩,nf0PL,PySem.W.mg_of X G mCO,⟨⟨⟨pgCO,hdCO,poCO,saCO⟩,caCO,c6,c7,moCO⟩,nmCO,nrCO,⟨feCO,fnCEn,kpCEn⟩,⟨fhCO,fnCHs,kpCHs⟩,⟨ftCO,fnCTb,kpCTb⟩,⟨fwCO,fnCWo,kpCWo⟩⟩,⟨mkCO,fiCO,fnCI,kkCO⟩,⟨ffwPL,fnPlW,kpPlW⟩,mx_mk lRI cdRI kpRI (fun _ _ _ _ _ _ us hl=>match us,hl with | [_,_],_=>rfl),mx_mk lH cdH kpH (fun _ _ _ _ _ _ us hl=>match us,hl with | [_],_=>rfl),mx_mk lE cdE kpE (fun _ _ _ _ _ _ us hl=>match us,hl with | [_,_],_=>rfl),mx_mk lRR cdRR kpRR (fun _ _ _ _ _ _ us hl=>match us,hl with | [_,_],_=>rfl),mx_mk lPI cdPI kpPI (fun _ _ _ _ _ _ us hl=>match us,hl with | [_,_],_=>rfl),mx_mk lPR cdPR kpPR (fun _ _ _ _ _ _ us hl=>match us,hl with | [_,_],_=>rfl),mx_mk lPlW cdPlW kpPlW (fun _ _ _ _ _ _ us hl=>match us,hl with | [_],_=>rfl),mx_mk lCI cdCI kpCI (fun _ _ _ _ _ _ us hl=>match us,hl with | [_,_,_],_=>rfl),mx_mk lCHs cdCHs kpCHs (fun _ _ _ _ _ _ us hl=>match us,hl with | [_],_=>rfl),mx_mk lCEn cdCEn kpCEn (fun _ _ _ _ _ _ us hl=>match us,hl with | [_,_],_=>rfl),mx_mk lCTb cdCTb kpCTb (fun _ _ _ _ _ _ us hl=>match us,hl with | [_],_=>rfl),mx_mk lCWo cdCWo kpCWo (fun _ _ _ _ _ _ us hl=>match us,hl with | [_],_=>rfl),mx_mk lXI cdXI kpXI (fun _ _ _ _ _ _ us hl=>match us,hl with | [_,_],_=>rfl),⟨cgcRI,crcRI,cfcRI,kpRI⟩,⟨⟨nmX,qnX,nsX,bsX,hdX,snX,subX,abX,colX,ddX,k0X,k1X,k2X,k3X,k5X,obX⟩,xSE,fiX,beq_iff_eq.mp fnXI,kkX,saX,hsX⟩,ptX,uNL,uNX,⟨gaS,rdS,atS⟩,PySem.W.mg_of X G mSE,PySem.W.mg_of X G mNG,PySem.W.mg_of X G mNN,PySem.W.mg_of X G mNO,PySem.W.mg_of X G mNR,PySem.W.mg_of X G mNL,PySem.W.mg_of X G mNS,PySem.W.mg_of X G mNT,PySem.W.mg_of X G mNX,PySem.W.mg_of X G mNV,PySem.W.mg_of X G mTM,PySem.W.mg_of X G mUL,exc_mk SE2 SE3 SE4 SE5 c6 c7 SE8 SE9,exc_mk NL2 NL3 NL4 NL5 c6 c7 NL8 NL9,exc_mk NX2 NX3 NX4 NX5 c6 c7 NX8 NX9,exc_mk NT2 NT3 NT4 NT5 c6 c7 NT8 NT9,xNT,up,k1,k2,k3,k4,xNL,xNG,xUL,xTM,xSE⟩
theorem walk {l:PySem.W.OpenLaw}{q:Program}{loose:List Str}{XP:(Str→Option Value)→Heap→Prop}{YP:World→Heap→Prop}{d:DefRec}{K:Params→PySem.W.Frag} (hn:l.most=some 63) (hdf:d.params.defaults=[])
    (hY:∀(w:World) (h:Heap),YP w h→(K w.params).In h)
    (F:∀(w:World) (mg:Str→Option Value) (fa:Addr) (h:Heap),(K w.params).In h→h.Ns mainGlobals mg→mg d.name=some (.ref fa) →
      ∃fd:FuncData,(∀(s:Shared) (u:Value),BindsTo s fd ⟨[u],[]⟩ [("_law_script",u)])∧∀base:Heap,(K w.params).In base→base.Ns mainGlobals mg→FnOk l.prog w (K w.params) mg base CX0 11 fa fd ["_law_script"] (spLaw (K w.params))) :
    PySem.W.WalkO q loose XP YP l.row.toRowW d [] (fun f vs=>PySem.call f vs) :=
  L2.walk_ofW (n:=63) (k:=11) (x:="_law_script") (CX:=fun _=>CX0) (sp:=fun w=>spLaw (K w.params)) hn (by decide) hdf ⟨rfl,by decide,by decide⟩ hY F (fun _ _ a ns hl hw _ hS=>⟨a,ns,rfl,hS,hl,hw,fun _=>rfl⟩) fun _ _ _ _ _ z=>z
theorem all_ok {P:Program}{w:World}{K:PySem.W.Frag}{mg:Str→Option Value}{fa:Addr} (hfa:mg "law"=some (.ref fa)) (hT:∃AL LN RU PL CO fE fH rR rP iR iP wP iC cH cE cT cW iX SE NG NN NO NR NL NS NT NX NV TM UL,T K mg AL LN RU PL CO fE fH rR rP iR iP wP iC cH cE cT cW iX SE NG NN NO NR NL NS NT NX NV TM UL)
    (t_sNum:∃f fd,Tx K mg "is_number" sNum ["thing"] f fd)
    (t_sWith:∃f fd,Tx K mg "is_number_within" sWith ["thing","least","most"] f fd)
    (t_sChM:∃f fd,Tx K mg "check_many" sChM ["many"] f fd)
    (t_sWC:∃f fd,Tx K mg "whole_company" sWC ["many"] f fd)
    (t_sChk:∃f fd,Tx K mg "check_group" sChk ["group","many"] f fd)
    (t_sHnd:∃f fd,Tx K mg "hands_of" sHnd ["group"] f fd)
    (t_sPts:∃f fd,Tx K mg "parts_of" sPts ["group"] f fd)
    (t_sIsT:∃f fd,Tx K mg "is_table" sIsT ["thing"] f fd)
    (t_sHin:∃f fd,Tx K mg "hands_in" sHin ["table"] f fd)
    (t_sCsg:∃f fd,Tx K mg "check_some_group" sCsg ["table","group"] f fd)
    (t_sSmd:∃f fd,Tx K mg "summed" sSmd ["one","other"] f fd)
    (t_sBsd:∃f fd,Tx K mg "beside" sBsd ["one","other"] f fd)
    (t_sCut:∃f fd,Tx K mg "cut" sCut ["table","group"] f fd)
    (t_sMrg:∃f fd,Tx K mg "merged" sMrg ["table","group"] f fd)
    (t_sTrd:∃f fd,Tx K mg "turned" sTrd ["table"] f fd)
    (t_sNWo:∃f fd,Tx K mg "number_words" sNWo ["numbers"] f fd)
    (t_sNOf:∃f fd,Tx K mg "number_of" sNOf ["word"] f fd)
    (t_sNsO:∃f fd,Tx K mg "numbers_of" sNsO ["words"] f fd)
    (t_sROf:∃f fd,Tx K mg "rule_of" sROf ["many","words"] f fd)
    (t_sMOf:∃f fd,Tx K mg "many_of" sMOf ["part"] f fd)
    (t_sRea:∃f fd,Tx K mg "read" sRea ["text"] f fd)
    (t_sSho:∃f fd,Tx K mg "shown" sSho ["table"] f fd)
    (t_sCel:∃f fd,Tx K mg "_law_cell" sCel ["_law_script","_law_k"] f fd)
    (t_sNms:∃f fd,Tx K mg "_law_numbers" sNms ["_law_script"] f fd)
    (t_sSms:∃f fd,Tx K mg "_law_sums" sSms ["_law_some"] f fd)
    (t_sNon:∃f fd,Tx K mg "_law_none" sNon ["_law_script","_law_table"] f fd)
    (t_sTol:∃f fd,Tx K mg "_law_told" sTol ["_law_which","_law_table","_law_other","_law_group"] f fd)
    (t_sRef:∃f fd,Tx K mg "_law_refused" sRef ["_law_which","_law_table","_law_other","_law_group"] f fd)
    (t_sWds:∃f fd,Tx K mg "_law_words" sWds ["_law_table"] f fd)
    (t_sAga:∃f fd,Tx K mg "_law_again" sAga ["_law_table","_law_words_here"] f fd)
    (t_sLaw:∃f fd,Tx K mg "law" sLaw ["_law_script"] f fd)
    : ∃fd:FuncData,(∀(s:Shared) (u:Value),BindsTo s fd ⟨[u],[]⟩ [("_law_script",u)])∧∀base:Heap,K.In base→base.Ns mainGlobals mg→FnOk P w K mg base CX0 11 fa fd ["_law_script"] (spLaw K):=by
  obtain⟨AL,LN,RU,PL,CO,fE,fH,rR,rP,iR,iP,wP,iC,cH,cE,cT,cW,iX,SE,NG,NN,NO,NR,NL,NS,NT,NX,NV,TM,UL,T⟩:=hT
  obtain⟨f_sNum,fd_sNum,t_sNum⟩:=t_sNum
  obtain⟨f_sWith,fd_sWith,t_sWith⟩:=t_sWith
  obtain⟨f_sChM,fd_sChM,t_sChM⟩:=t_sChM
  obtain⟨f_sWC,fd_sWC,t_sWC⟩:=t_sWC
  obtain⟨f_sChk,fd_sChk,t_sChk⟩:=t_sChk
  obtain⟨f_sHnd,fd_sHnd,t_sHnd⟩:=t_sHnd
  obtain⟨f_sPts,fd_sPts,t_sPts⟩:=t_sPts
  obtain⟨f_sIsT,fd_sIsT,t_sIsT⟩:=t_sIsT
  obtain⟨f_sHin,fd_sHin,t_sHin⟩:=t_sHin
  obtain⟨f_sCsg,fd_sCsg,t_sCsg⟩:=t_sCsg
  obtain⟨f_sSmd,fd_sSmd,t_sSmd⟩:=t_sSmd
  obtain⟨f_sBsd,fd_sBsd,t_sBsd⟩:=t_sBsd
  obtain⟨f_sCut,fd_sCut,t_sCut⟩:=t_sCut
  obtain⟨f_sMrg,fd_sMrg,t_sMrg⟩:=t_sMrg
  obtain⟨f_sTrd,fd_sTrd,t_sTrd⟩:=t_sTrd
  obtain⟨f_sNWo,fd_sNWo,t_sNWo⟩:=t_sNWo
  obtain⟨f_sNOf,fd_sNOf,t_sNOf⟩:=t_sNOf
  obtain⟨f_sNsO,fd_sNsO,t_sNsO⟩:=t_sNsO
  obtain⟨f_sROf,fd_sROf,t_sROf⟩:=t_sROf
  obtain⟨f_sMOf,fd_sMOf,t_sMOf⟩:=t_sMOf
  obtain⟨f_sRea,fd_sRea,t_sRea⟩:=t_sRea
  obtain⟨f_sSho,fd_sSho,t_sSho⟩:=t_sSho
  obtain⟨f_sCel,fd_sCel,t_sCel⟩:=t_sCel
  obtain⟨f_sNms,fd_sNms,t_sNms⟩:=t_sNms
  obtain⟨f_sSms,fd_sSms,t_sSms⟩:=t_sSms
  obtain⟨f_sNon,fd_sNon,t_sNon⟩:=t_sNon
  obtain⟨f_sTol,fd_sTol,t_sTol⟩:=t_sTol
  obtain⟨f_sRef,fd_sRef,t_sRef⟩:=t_sRef
  obtain⟨f_sWds,fd_sWds,t_sWds⟩:=t_sWds
  obtain⟨f_sAga,fd_sAga,t_sAga⟩:=t_sAga
  obtain⟨f_sLaw,fd_sLaw,t_sLaw⟩:=t_sLaw
  have e:=hfa.symm.trans t_sLaw.at_
  cases e
  refine⟨fd_sLaw,fun s u=>.of_eq (t_sLaw.bd [u] rfl),fun base _ _=>?_⟩
  obtain⟨m1,x1⟩:=T.xRI
  obtain⟨m2,x2⟩:=T.xH
  obtain⟨m3,x3⟩:=T.xE
  obtain⟨m7,x7⟩:=T.xPI
  obtain⟨m8,x8⟩:=T.xPR
  obtain⟨n3,y3⟩:=T.xPlW
  obtain⟨c1',z1⟩:=T.xCI
  obtain⟨c3',z3⟩:=T.xCEn
  obtain⟨c5',z5⟩:=T.xCTb
  obtain⟨c4',z4⟩:=T.xCWo
  obtain⟨c6',z6⟩:=T.xXI
  have d0:=ok_num (P:=P) (w:=w) (base:=base) t_sNum T
  have d1:=ok_with (P:=P) (w:=w) (base:=base) t_sWith d0
  have d2:=ok_chm t_sChM T d1
  have d3:=ok_wc (P:=P) (w:=w) (base:=base) t_sWC T
  have d4:=ok_chk t_sChk T d1 d3
  have d5:=ok_hnd t_sHnd T d4
  have d6:=ok_hin t_sHin T (ok_ist t_sIsT T d0)
  have d7:=ok_pts t_sPts T d4
  have cs:=ok_csg t_sCsg T d1 d6 d3
  have cB:=ok_csgB t_sCsg T d1 d6 d3
  have d11:=ok_nwo (P:=P) (w:=w) (base:=base) t_sNWo T
  have eRI:=ok_ri x1 T d2
  have eH:=ok_hs (P:=P) (w:=w) (mg:=mg) (base:=base) x2
  have eE:=ok_ern x3 T d4
  have ePI:=ok_pi x7 T eRI d6
  have ePR:=ok_pr (P:=P) (w:=w) (mg:=mg) (base:=base) x8 T
  have ePW:=ok_plw y3 T d11
  have eCI:=ok_ci (fE:=fE) z1 T d2 eH
  have eCE:=ok_ce z3 T d4 eE
  have eCT:=ok_ct z5 T d3 eCE
  have eCW:=ok_cw (P:=P) (w:=w) (mg:=mg) (base:=base) z4 T
  have eXI:=ok_xi (P:=P) (w:=w) (mg:=mg) (base:=base) z6 T
  have t1:=ok_nso t_sNsO T (ok_nof (P:=P) (w:=w) (base:=base) t_sNOf T)
  have t2:=ok_rof t_sROf T t1 ePI
  have t3:=ok_rea t_sRea T (ok_mof t_sMOf T) t2 eCI eXI (.all z6.bd) ePR ePW
  have s1:=ok_sho t_sSho T d6 eCI ePI eCW ePR ePW
  have tB:=ok_tolB t_sTol T (ok_smdB t_sSmd T d6) (ok_bsdB t_sBsd T d6) (ok_cutB t_sCut T cB d7) (ok_mrgB t_sMrg T cB d7 d5 d6 d3) (ok_trdB t_sTrd T d6 d3) (ok_shoB t_sSho T d6 eCI ePI)
  have l2:=ok_cel (P:=P) (w:=w) (base:=base) t_sCel T
  exact(ok_law t_sLaw T l2 (ok_nms t_sNms T l2) (ok_sms t_sSms T) (ok_non t_sNon T l2) (ok_ref t_sRef T tB) (ok_smd t_sSmd T d6) (ok_trd t_sTrd T d6 d3) (ok_cut t_sCut T cs d7) (ok_mrg t_sMrg T cs d7 d5 d6 d3) (ok_wds t_sWds T) s1 (ok_aga t_sAga T t3 eCT) (ok_bsd t_sBsd T d6) eCI ePI eCW ePR ePW).ok
end K19
open PySem PySem.W PyProof.Rows
set_option maxRecDepth 100000 in
set_option maxHeartbeats 0 in
theorem PySem.Challenge.cw_shareparley_k19_tables_refused_holds : PySem.Challenge.rw_shareparley_k19_tables_refused.Holds := by
  w_on;o_law;k_head;(case hw=>w_witness2)
  k_fill
  refine K19.walk (l:=PySem.Challenge.rw_shareparley_k19_tables_refused) rfl rfl (fun w h Y=>PySem.W.kIn_of Y) ?F
  case F =>
    intro w mg fa h KX G hmg
    refine K19.all_ok hmg ?T ?t_sNum ?t_sWith ?t_sChM ?t_sWC ?t_sChk ?t_sHnd ?t_sPts ?t_sIsT ?t_sHin ?t_sCsg ?t_sSmd ?t_sBsd ?t_sCut ?t_sMrg ?t_sTrd ?t_sNWo ?t_sNOf ?t_sNsO ?t_sROf ?t_sMOf ?t_sRea ?t_sSho ?t_sCel ?t_sNms ?t_sSms ?t_sNon ?t_sTol ?t_sRef ?t_sWds ?t_sAga ?t_sLaw
    case T =>
      refine' K19.T_mk KX G ?b_isi ?b_int ?b_bool ?b_range ?b_len ?b_list ?b_ve ?b_sum ?b_all ?b_any ?b_zip ?b_tuple ?b_min ?b_abs ?b_enum ?b_str ?mAL ?lkAL ?mLN ?lkLN ?mr ?mf ?fg ?mRU ?pgRU ?hdRU ?poRU ?saRU ?caRU ?moRU ?nmRU ?feRU ?fhRU ?frRU ?irRU ?mkRU ?fiRU ?kkRU ?mPL ?pgPL ?hdPL ?poPL ?saPL ?caPL ?moPL ?nmPL ?fePL ?fhPL ?frPL ?irPL ?mkPL ?fiPL ?kkPL ?nf0PL ?mCO ?pgCO ?hdCO ?poCO ?saCO ?caCO ?moCO ?nmCO ?nrCO ?feCO ?fhCO ?ftCO ?fwCO ?mkCO ?fiCO ?kkCO ?ffwPL ?lRI ?cdRI ?kpRI ?fnRI ?lH ?cdH ?kpH ?fnH ?lE ?cdE ?kpE ?fnE ?lRR ?cdRR ?kpRR ?fnRR ?lPI ?cdPI ?kpPI ?fnPI ?lPR ?cdPR ?kpPR ?fnPR ?lPlW ?cdPlW ?kpPlW ?fnPlW ?lCI ?cdCI ?kpCI ?fnCI ?lCHs ?cdCHs ?kpCHs ?fnCHs ?lCEn ?cdCEn ?kpCEn ?fnCEn ?lCTb ?cdCTb ?kpCTb ?fnCTb ?lCWo ?cdCWo ?kpCWo ?fnCWo ?lXI ?cdXI ?kpXI ?fnXI ?cgcRI ?crcRI ?cfcRI ?obX ?fiX ?kkX ?saX ?hsX ?ptX ?uNL ?uNX ?gaS ?rdS ?atS ?mSE ?mNG ?mNN ?mNO ?mNR ?mNL ?mNS ?mNT ?mNX ?mNV ?mTM ?mUL ?c6 ?c7 ?SE2 ?SE3 ?SE4 ?SE5 ?SE8 ?SE9 ?NL2 ?NL3 ?NL4 ?NL5 ?NL8 ?NL9 ?NX2 ?NX3 ?NX4 ?NX5 ?NX8 ?NX9 ?NT2 ?NT3 ?NT4 ?NT5 ?NT8 ?NT9 ?xNT ?up ?k1 ?k2 ?k3 ?k4 ?xNL ?xNG ?xUL ?xTM ?xSE
      (case b_isi=>k_is)
      (case b_int=>k_is)
      (case b_bool=>k_is)
      (case b_range=>k_is)
      (case b_len=>k_is)
      (case b_list=>k_is)
      (case b_ve=>k_is)
      (case b_sum=>k_is)
      (case b_all=>k_is)
      (case b_any=>k_is)
      (case b_zip=>k_is)
      (case b_tuple=>k_is)
      (case b_min=>k_is)
      (case b_abs=>k_is)
      (case b_enum=>k_is)
      (case b_str=>k_is)
      (case mAL=>k_is)
      (case lkAL=>k_is)
      (case mLN=>k_is)
      (case lkLN=>k_is)
      (case mr=>k_is)
      (case mf=>k_is)
      (case fg=>k_is)
      (case mRU=>k_is)
      (case pgRU=>k_is)
      (case hdRU=>k_is)
      (case poRU=>k_is)
      (case saRU=>k_is)
      (case caRU=>k_is)
      (case moRU=>k_is)
      (case nmRU=>k_is)
      (case feRU=>k_is)
      (case fhRU=>k_is)
      (case frRU=>k_is)
      (case irRU=>kit_is)
      (case mkRU=>k_is)
      (case fiRU=>k_is)
      (case kkRU=>k_is)
      (case mPL=>k_is)
      (case pgPL=>k_is)
      (case hdPL=>k_is)
      (case poPL=>k_is)
      (case saPL=>k_is)
      (case caPL=>k_is)
      (case moPL=>k_is)
      (case nmPL=>k_is)
      (case fePL=>k_is)
      (case fhPL=>k_is)
      (case frPL=>k_is)
      (case irPL=>kit_is)
      (case mkPL=>k_is)
      (case fiPL=>k_is)
      (case kkPL=>k_is)
      (case nf0PL=>k_is)
      (case mCO=>k_is)
      (case pgCO=>k_is)
      (case hdCO=>k_is)
      (case poCO=>k_is)
      (case saCO=>k_is)
      (case caCO=>k_is)
      (case moCO=>k_is)
      (case nmCO=>k_is)
      (case nrCO=>k_is)
      (case feCO=>k_is)
      (case fhCO=>k_is)
      (case ftCO=>k_is)
      (case fwCO=>k_is)
      (case mkCO=>k_is)
      (case fiCO=>k_is)
      (case kkCO=>k_is)
      (case ffwPL=>k_is)
      (case lRI=>k_is)
      (case cdRI=>k_is)
      (case kpRI=>k_is)
      (case fnRI=>k_is)
      (case lH=>k_is)
      (case cdH=>k_is)
      (case kpH=>k_is)
      (case fnH=>k_is)
      (case lE=>k_is)
      (case cdE=>k_is)
      (case kpE=>k_is)
      (case fnE=>k_is)
      (case lRR=>k_is)
      (case cdRR=>k_is)
      (case kpRR=>k_is)
      (case fnRR=>k_is)
      (case lPI=>k_is)
      (case cdPI=>k_is)
      (case kpPI=>k_is)
      (case fnPI=>k_is)
      (case lPR=>k_is)
      (case cdPR=>k_is)
      (case kpPR=>k_is)
      (case fnPR=>k_is)
      (case lPlW=>k_is)
      (case cdPlW=>k_is)
      (case kpPlW=>k_is)
      (case fnPlW=>k_is)
      (case lCI=>k_is)
      (case cdCI=>k_is)
      (case kpCI=>k_is)
      (case fnCI=>k_is)
      (case lCHs=>k_is)
      (case cdCHs=>k_is)
      (case kpCHs=>k_is)
      (case fnCHs=>k_is)
      (case lCEn=>k_is)
      (case cdCEn=>k_is)
      (case kpCEn=>k_is)
      (case fnCEn=>k_is)
      (case lCTb=>k_is)
      (case cdCTb=>k_is)
      (case kpCTb=>k_is)
      (case fnCTb=>k_is)
      (case lCWo=>k_is)
      (case cdCWo=>k_is)
      (case kpCWo=>k_is)
      (case fnCWo=>k_is)
      (case cgcRI=>k_is)
      (case crcRI=>k_is)
      (case cfcRI=>k_is)
      (case mSE=>k_is)
      (case mNG=>k_is)
      (case mNN=>k_is)
      (case mNO=>k_is)
      (case mNR=>k_is)
      (case mNL=>k_is)
      (case mNS=>k_is)
      (case mNT=>k_is)
      (case mNX=>k_is)
      (case mNV=>k_is)
      (case mTM=>k_is)
      (case mUL=>k_is)
      (case fiX=>k_is)
      (case lXI=>k_is)
      (case cdXI=>k_is)
      (case kpXI=>k_is)
      (case fnXI=>k_is)
      (case obX=>k_is)
      (case kkX=>k_is)
      (case saX=>k_is)
      (case hsX=>k_is)
      (case ptX=>k_is)
      (case uNL=>k_is)
      (case uNX=>k_is)
      (case gaS=>k_is)
      (case rdS=>k_is)
      (case atS=>k_is)
      (case c6=>k_is)
      (case c7=>k_is)
      (case SE2=>k_is)
      (case SE3=>k_is)
      (case SE4=>k_is)
      (case SE5=>k_is)
      (case SE8=>k_is)
      (case SE9=>k_is)
      (case NL2=>k_is)
      (case NL3=>k_is)
      (case NL4=>k_is)
      (case NL5=>k_is)
      (case NL8=>k_is)
      (case NL9=>k_is)
      (case NX2=>k_is)
      (case NX3=>k_is)
      (case NX4=>k_is)
      (case NX5=>k_is)
      (case NX8=>k_is)
      (case NX9=>k_is)
      (case NT2=>k_is)
      (case NT3=>k_is)
      (case NT4=>k_is)
      (case NT5=>k_is)
      (case NT8=>k_is)
      (case NT9=>k_is)
      (case xNT=>k_exc)
      (case up=>k_is)
      (case k1=>kit_is)
      (case k2=>kit_is)
      (case k3=>kit_is)
      (case k4=>kit_is)
      (case xNL=>k_exc)
      (case xNG=>k_exc)
      (case xUL=>k_exc)
      (case xTM=>k_exc)
      (case xSE=>k_exc)
    case t_sNum =>
      refine' L2.tx_mk KX G ?a ?l ?c ?k (fun _ _ _ _ _ _ us hl=>match us,hl with | [_],_=>rfl)
      (case a=>k_is);(case l=>k_is);(case c=>k_is);(case k=>k_is)
    case t_sWith =>
      refine' L2.tx_mk KX G ?a ?l ?c ?k (fun _ _ _ _ _ _ us hl=>match us,hl with | [_,_,_],_=>rfl)
      (case a=>k_is);(case l=>k_is);(case c=>k_is);(case k=>k_is)
    case t_sChM =>
      refine' L2.tx_mk KX G ?a ?l ?c ?k (fun _ _ _ _ _ _ us hl=>match us,hl with | [_],_=>rfl)
      (case a=>k_is);(case l=>k_is);(case c=>k_is);(case k=>k_is)
    case t_sWC =>
      refine' L2.tx_mk KX G ?a ?l ?c ?k (fun _ _ _ _ _ _ us hl=>match us,hl with | [_],_=>rfl)
      (case a=>k_is);(case l=>k_is);(case c=>k_is);(case k=>k_is)
    case t_sChk =>
      refine' L2.tx_mk KX G ?a ?l ?c ?k (fun _ _ _ _ _ _ us hl=>match us,hl with | [_,_],_=>rfl)
      (case a=>k_is);(case l=>k_is);(case c=>k_is);(case k=>k_is)
    case t_sHnd =>
      refine' L2.tx_mk KX G ?a ?l ?c ?k (fun _ _ _ _ _ _ us hl=>match us,hl with | [_],_=>rfl)
      (case a=>k_is);(case l=>k_is);(case c=>k_is);(case k=>k_is)
    case t_sPts =>
      refine' L2.tx_mk KX G ?a ?l ?c ?k (fun _ _ _ _ _ _ us hl=>match us,hl with | [_],_=>rfl)
      (case a=>k_is);(case l=>k_is);(case c=>k_is);(case k=>k_is)
    case t_sIsT =>
      refine' L2.tx_mk KX G ?a ?l ?c ?k (fun _ _ _ _ _ _ us hl=>match us,hl with | [_],_=>rfl)
      (case a=>k_is);(case l=>k_is);(case c=>k_is);(case k=>k_is)
    case t_sHin =>
      refine' L2.tx_mk KX G ?a ?l ?c ?k (fun _ _ _ _ _ _ us hl=>match us,hl with | [_],_=>rfl)
      (case a=>k_is);(case l=>k_is);(case c=>k_is);(case k=>k_is)
    case t_sCsg =>
      refine' L2.tx_mk KX G ?a ?l ?c ?k (fun _ _ _ _ _ _ us hl=>match us,hl with | [_,_],_=>rfl)
      (case a=>k_is);(case l=>k_is);(case c=>k_is);(case k=>k_is)
    case t_sSmd =>
      refine' L2.tx_mk KX G ?a ?l ?c ?k (fun _ _ _ _ _ _ us hl=>match us,hl with | [_,_],_=>rfl)
      (case a=>k_is);(case l=>k_is);(case c=>k_is);(case k=>k_is)
    case t_sBsd =>
      refine' L2.tx_mk KX G ?a ?l ?c ?k (fun _ _ _ _ _ _ us hl=>match us,hl with | [_,_],_=>rfl)
      (case a=>k_is);(case l=>k_is);(case c=>k_is);(case k=>k_is)
    case t_sCut =>
      refine' L2.tx_mk KX G ?a ?l ?c ?k (fun _ _ _ _ _ _ us hl=>match us,hl with | [_,_],_=>rfl)
      (case a=>k_is);(case l=>k_is);(case c=>k_is);(case k=>k_is)
    case t_sMrg =>
      refine' L2.tx_mk KX G ?a ?l ?c ?k (fun _ _ _ _ _ _ us hl=>match us,hl with | [_,_],_=>rfl)
      (case a=>k_is);(case l=>k_is);(case c=>k_is);(case k=>k_is)
    case t_sTrd =>
      refine' L2.tx_mk KX G ?a ?l ?c ?k (fun _ _ _ _ _ _ us hl=>match us,hl with | [_],_=>rfl)
      (case a=>k_is);(case l=>k_is);(case c=>k_is);(case k=>k_is)
    case t_sNWo =>
      refine' L2.tx_mk KX G ?a ?l ?c ?k (fun _ _ _ _ _ _ us hl=>match us,hl with | [_],_=>rfl)
      (case a=>k_is);(case l=>k_is);(case c=>k_is);(case k=>k_is)
    case t_sNOf =>
      refine' L2.tx_mk KX G ?a ?l ?c ?k (fun _ _ _ _ _ _ us hl=>match us,hl with | [_],_=>rfl)
      (case a=>k_is);(case l=>k_is);(case c=>k_is);(case k=>k_is)
    case t_sNsO =>
      refine' L2.tx_mk KX G ?a ?l ?c ?k (fun _ _ _ _ _ _ us hl=>match us,hl with | [_],_=>rfl)
      (case a=>k_is);(case l=>k_is);(case c=>k_is);(case k=>k_is)
    case t_sROf =>
      refine' L2.tx_mk KX G ?a ?l ?c ?k (fun _ _ _ _ _ _ us hl=>match us,hl with | [_,_],_=>rfl)
      (case a=>k_is);(case l=>k_is);(case c=>k_is);(case k=>k_is)
    case t_sMOf =>
      refine' L2.tx_mk KX G ?a ?l ?c ?k (fun _ _ _ _ _ _ us hl=>match us,hl with | [_],_=>rfl)
      (case a=>k_is);(case l=>k_is);(case c=>k_is);(case k=>k_is)
    case t_sRea =>
      refine' L2.tx_mk KX G ?a ?l ?c ?k (fun _ _ _ _ _ _ us hl=>match us,hl with | [_],_=>rfl)
      (case a=>k_is);(case l=>k_is);(case c=>k_is);(case k=>k_is)
    case t_sSho =>
      refine' L2.tx_mk KX G ?a ?l ?c ?k (fun _ _ _ _ _ _ us hl=>match us,hl with | [_],_=>rfl)
      (case a=>k_is);(case l=>k_is);(case c=>k_is);(case k=>k_is)
    case t_sCel =>
      refine' L2.tx_mk KX G ?a ?l ?c ?k (fun _ _ _ _ _ _ us hl=>match us,hl with | [_,_],_=>rfl)
      (case a=>k_is);(case l=>k_is);(case c=>k_is);(case k=>k_is)
    case t_sNms =>
      refine' L2.tx_mk KX G ?a ?l ?c ?k (fun _ _ _ _ _ _ us hl=>match us,hl with | [_],_=>rfl)
      (case a=>k_is);(case l=>k_is);(case c=>k_is);(case k=>k_is)
    case t_sSms =>
      refine' L2.tx_mk KX G ?a ?l ?c ?k (fun _ _ _ _ _ _ us hl=>match us,hl with | [_],_=>rfl)
      (case a=>k_is);(case l=>k_is);(case c=>k_is);(case k=>k_is)
    case t_sNon =>
      refine' L2.tx_mk KX G ?a ?l ?c ?k (fun _ _ _ _ _ _ us hl=>match us,hl with | [_,_],_=>rfl)
      (case a=>k_is);(case l=>k_is);(case c=>k_is);(case k=>k_is)
    case t_sTol =>
      refine' L2.tx_mk KX G ?a ?l ?c ?k (fun _ _ _ _ _ _ us hl=>match us,hl with | [_,_,_,_],_=>rfl)
      (case a=>k_is);(case l=>k_is);(case c=>k_is);(case k=>k_is)
    case t_sRef =>
      refine' L2.tx_mk KX G ?a ?l ?c ?k (fun _ _ _ _ _ _ us hl=>match us,hl with | [_,_,_,_],_=>rfl)
      (case a=>k_is);(case l=>k_is);(case c=>k_is);(case k=>k_is)
    case t_sWds =>
      refine' L2.tx_mk KX G ?a ?l ?c ?k (fun _ _ _ _ _ _ us hl=>match us,hl with | [_],_=>rfl)
      (case a=>k_is);(case l=>k_is);(case c=>k_is);(case k=>k_is)
    case t_sAga =>
      refine' L2.tx_mk KX G ?a ?l ?c ?k (fun _ _ _ _ _ _ us hl=>match us,hl with | [_,_],_=>rfl)
      (case a=>k_is);(case l=>k_is);(case c=>k_is);(case k=>k_is)
    case t_sLaw =>
      refine' L2.tx_mk KX G ?a ?l ?c ?k (fun _ _ _ _ _ _ us hl=>match us,hl with | [_],_=>rfl)
      (case a=>k_is);(case l=>k_is);(case c=>k_is);(case k=>k_is)
