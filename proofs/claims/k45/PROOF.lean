import PyProof.Rows.All
import Wide.All
import OpenK.AllK
import Wide.FinOn
import PyProof.EqAt
import PyProof.EqKinds
import PyProof.TupleCall
import KE.KDictSum
import PyProof.SliceStr2
import PyProof.NeKinds
import PyProof.StrWalks
import PyProof.ConsumeWalk
import KE.KSortTup
import PyProof.Rows.SetFrom
import PyProof.SumAny
import PyProof.EnumMake
import KE.KRevIter
import PyProof.MeetsStr
import PyProof.ListRange
import PyProof.Rows.Range3
import KE.KDictList
import PyProof.PureStr
import PyProof.WalkInts
import PyProof.ConsumeS
import PyProof.ZipIter
import PyProof.AttrMissHeap
import KE.KDictOf
import PyProof.DictItems
import KE.KItemsList
import PySem.Challenge.RW_creasecourt_k45_whole_whichever_way
local macro_rules|`(tactic| omega) => `(tactic| lia)
set_option compiler.extract_closed false
set_option Elab.async false
set_option linter.all false
set_option maxRecDepth 100000
set_option linter.all false
noncomputable abbrev Zb := @Option.bind_eq_some_iff
noncomputable abbrev Zm := @Option.map_eq_some_iff
noncomputable abbrev Zf := @List.forall_mem_cons
noncomputable abbrev Zg := @List.getElem?_eq_some_iff
noncomputable abbrev Zn := @List.getElem?_eq_none_iff
noncomputable abbrev Zl := @List.length_map
namespace L2
open PySem PySem.Spec PyProof.Rows
noncomputable abbrev Key:=Sum Int Str
noncomputable def keyIs:Key->Value->Bool
 | .inl k,v=>Value.isInt k v
 | .inr x,v=>Value.isStrOf x v
noncomputable def keyH (w:World):Key->Int
 | .inl k=>hashInt k
 | .inr x=>hashStr w x
theorem keyIs_shape:∀ {k:Key}{v:Value},keyIs k v=true->(∃ i t,k=Sum.inl i/\v=Value.int i t)\/(∃ x t,k=Sum.inr x/\v=Value.str x t)
 | .inl i,v,h=>by
  obtain ⟨t,e⟩:=Value.isInt_shape (k:=i) (v:=v) h
  exact .inl ⟨i,t,rfl,e⟩
 | .inr x,v,h=>by
  obtain ⟨t,e⟩:=Value.isStrOf_shape (x:=x) (v:=v) h
  exact .inr ⟨x,t,rfl,e⟩
theorem keyIs_int (i:Int)(t:Tok):keyIs (.inl i) (.int i t)=true:=by simp [keyIs,Value.isInt]
theorem keyIs_str (x:Str)(t:Tok):keyIs (.inr x) (.str x t)=true:=by simp [keyIs,Value.isStrOf]
theorem key_ll (a b:Int):decide ((Sum.inl a:Key)=Sum.inl b)=(a == b):=by
 by_cases e:a=b
 ·subst e;simp
 ·have h:¬ (Sum.inl a:Key)=Sum.inl b:=fun q=>e (Sum.inl.inj q)
  rw [decide_eq_false h]
  exact (beq_eq_false_iff_ne.mpr e).symm
theorem key_rr (a b:Str):decide ((Sum.inr a:Key)=Sum.inr b)=decide (a=b):=by
 by_cases e:a=b
 ·subst e;simp
 ·have h:¬ (Sum.inr a:Key)=Sum.inr b:=fun q=>e (Sum.inr.inj q)
  rw [decide_eq_false h,decide_eq_false e]
theorem key_lr (a:Int)(b:Str):decide ((Sum.inl a:Key)=Sum.inr b)=false:=decide_eq_false (fun q=>nomatch q)
theorem key_rl (a:Str)(b:Int):decide ((Sum.inr a:Key)=Sum.inl b)=false:=decide_eq_false (fun q=>nomatch q)
noncomputable def mixKind (prog:Program)(w:World):PySem.KeyKind prog w Key where
 is:=keyIs
 hash:=keyH w
 inj:=fun v a b ha hb=>by
  rcases keyIs_shape ha with ⟨i,t,rfl,rfl⟩|⟨x,t,rfl,rfl⟩
  ·rcases keyIs_shape hb with ⟨j,u,rfl,e⟩|⟨y,u,rfl,e⟩
   ·injection e with e1 _;rw [e1]
   ·exact nomatch e
  ·rcases keyIs_shape hb with ⟨j,u,rfl,e⟩|⟨y,u,rfl,e⟩
   ·exact nomatch e
   ·injection e with e1 _;rw [e1]
 byValue:=fun k v h=>by
  rcases keyIs_shape h with ⟨i,t,rfl,rfl⟩|⟨x,t,rfl,rfl⟩<;>rfl
 pyHash:=fun hv h=>by
  rcases keyIs_shape hv with ⟨i,t,rfl,rfl⟩|⟨x,t,rfl,rfl⟩
  ·exact wpAny_pyHash_int h
  ·exact wpAny_pyHash_str h
 eqBool:=fun hu hv h=>by
  rcases keyIs_shape hu with ⟨i,t,rfl,rfl⟩|⟨x,t,rfl,rfl⟩
  ·rcases keyIs_shape hv with ⟨j,u,rfl,rfl⟩|⟨y,u,rfl,rfl⟩
   ·rw [key_ll] at h;exact wpAny_eqBool_int h
   ·rw [key_lr] at h;exact SeqAt.EqAt.int_str i t y u _ _ _ _ h
  ·rcases keyIs_shape hv with ⟨j,u,rfl,rfl⟩|⟨y,u,rfl,rfl⟩
   ·rw [key_rl] at h;exact SeqAt.EqAt.str_int x t j u _ _ _ _ h
   ·rw [key_rr] at h;exact wpAny_eqBool_str h
 «strs»:=fun k x t v h=>by
  rcases keyIs_shape h with ⟨i,u,rfl,e⟩|⟨y,u,rfl,e⟩
  ·exact nomatch e
  ·injection e with e1 _
   subst e1
   cases v<;>rfl
theorem mixKind_int (prog:Program)(w:World)(i:Int)(t:Tok):(mixKind prog w).is (.inl i) (.int i t)=true:=keyIs_int i t
theorem mixKind_str (prog:Program)(w:World)(x:Str)(t:Tok):(mixKind prog w).is (.inr x) (.str x t)=true:=keyIs_str x t
end L2
namespace L2
open PySem PySem.Spec PyProof.Rows
inductive V where
 | non|bl (b:Bool)|int (i:Int)|str (x:Str)|byt (b:Array UInt8)|flt (b:UInt64)|ref (a:Addr)|ty (n:String)
 deriving DecidableEq
noncomputable def RelV:V->Value->Prop
 | .non,u=>u=Value.none
 | .bl b,u=>u=Value.bool b
 | .int i,u=>∃ t,u=Value.int i t
 | .str x,u=>∃ t,u=Value.str x t
 | .byt b,u=>∃ t,u=Value.bytes b t
 | .flt b,u=>∃ t,u=Value.float b t
 | .ref a,u=>u=Value.ref a
 | .ty n,u=>u=Value.type n
noncomputable abbrev Vals:List V->List Value->Prop:=Paired RelV
theorem Vals.length {xs:List V}{us:List Value}(r:Vals xs us):xs.length=us.length:=Paired.length r
theorem Vals.get:∀ {xs:List V}{us:List Value}{i:Nat}{x:V},Vals xs us->xs[i]? = some x->∃ u,us[i]? = some u/\RelV x u
 | _,_,_,_,.nil,e=>by simp at e
 | _,_,0,_,.cons r _,e=>by simp at e;subst e;exact ⟨_,rfl,r⟩
 | _,_,i+1,x,.cons _ t,e=>by
  obtain ⟨u,h1,h2⟩:=Vals.get (i:=i) (x:=x) t (by simpa using e)
  exact ⟨u,by simpa using h1,h2⟩
theorem Vals.set {x:V}{u:Value}(r:RelV x u):∀ {xs:List V}{us:List Value}(i:Nat),Vals xs us->Vals (xs.set i x) (us.set i u)
 | _,_,_,.nil=>.nil
 | _,_,0,.cons _ t=>.cons r t
 | _,_,i+1,.cons q t=>.cons q (Vals.set r i t)
theorem Vals.append:∀ {xs ys:List V}{us ws:List Value},Vals xs us->Vals ys ws->Vals (xs++ys) (us++ws)
 | _,_,_,_,.nil,s=>s
 | _,_,_,_,.cons r t,s=>.cons r (Vals.append t s)
theorem Vals.take:∀ {xs:List V}{us:List Value}(n:Nat),Vals xs us->Vals (xs.take n) (us.take n)
 | _,_,0,_=>.nil
 | _,_,_+1,.nil=>.nil
 | _,_,n+1,.cons r t=>.cons r (Vals.take n t)
theorem Vals.drop:∀ {xs:List V}{us:List Value}(n:Nat),Vals xs us->Vals (xs.drop n) (us.drop n)
 | _,_,0,r=>r
 | _,_,_+1,.nil=>.nil
 | _,_,n+1,.cons _ t=>Vals.drop n t
noncomputable def RelO:Option V->Option Value->Prop
 | some v,some u=>RelV v u
 | none,none=>True
 | _,_=>False
noncomputable def KV {κ:Type}:List (κ×V)->List (κ×Value)->Prop:=Paired fun (p:κ×V)(q:κ×Value)=>p.1=q.1/\RelV p.2 q.2
noncomputable def kV:Key->V
 | .inl i=>.int i
 | .inr x=>.str x
inductive HO where
 | lst (xs:List V)
 | tup (xs:List V)
 | dK (kvs:List (Key×V))|dT (kvs:List (List Key×V))
 | set (S:Int->Bool)(n:Nat)
 | ins (C dx:Addr)(fs:List (Str×V))
 | own (x:Addr)
 | xd (fs:List (Str×V))
 | met (f x:Addr)
 | rng (lo hi:Int)
 | frz (o:Obj)(u:HO)
 | tbl (ps:Array Value)
 | ext (φ:Heap->Prop)
noncomputable abbrev Hp:=Addr->Option HO
noncomputable def upd (H:Hp)(a:Addr)(o:HO):Hp:=fun b=>if b=a then some o else H b
theorem upd_same {H:Hp}{a:Addr}{o:HO}:upd H a o a=some o:=by unfold upd;rw [if_pos rfl]
theorem upd_ne {H:Hp}{a b:Addr}{o:HO}(h:b≠a):upd H a o b=H b:=by unfold upd;rw [if_neg h]
theorem ne_of {H:Hp}{a b:Addr}{o u:HO}(h:H a=some o)(h':H b=some u)(d:o≠u):a≠b:=by
 intro e;subst e;rw [h] at h';exact d (Option.some.inj h')
theorem ne_of_none {H:Hp}{a b:Addr}{o:HO}(h:H a=some o)(h':H b=none):a≠b:=by
 intro e;subst e;rw [h] at h';cases h'
section
variable (P:Program)(w:World)
noncomputable def TupN (h:Heap)(a:Addr)(xs:Array Value):Prop:=∃ o,h.get? a=some o/\o.cls=.type "tuple"/\∃ n,o.data=.seq xs n/\o.dict=none
theorem TupN.tup {h:Heap}{a:Addr}{xs:Array Value}(x:TupN h a xs):IsTup h a xs:=let ⟨o,e,c,n,d,_⟩:=x;⟨o,e,c,n,d⟩
theorem TupN.new (h:Heap)(items:Array Value):TupN (h.push { cls:=.type "tuple",data:=.seq items }) h.objs.size items:=⟨_,Heap.get?_push_size _ rfl,rfl,_,rfl,rfl⟩
noncomputable def ObjOk (H:Hp)(h:Heap)(a:Addr):HO->Prop
 | .lst xs=>xs.length<=sizeLine/\∃ (its:List Value)(n:Nat),Vals xs its/\h.get? a=some { cls:=.type "list",data:=.seq its.toArray n }
 | .tup xs=>xs.length<=sizeLine/\∃ its:List Value,Vals xs its/\TupN h a its.toArray
 | .dK kvs=>kvs.length<=sizeLine/\(a == sysModules)=false/\∃ vs,KV kvs vs/\h.DictOf (mixKind P w) a vs
 | .dT kvs=>kvs.length<=sizeLine/\(a == sysModules)=false/\∃ xs:List (List Key×Addr×Value),
   Paired (fun (p:List Key×V)(q:List Key×Addr×Value)=>p.1=q.1/\H q.2.1=some (.tup (p.1.map kV))/\RelV p.2 q.2.2) kvs xs /\
   ∃ o es ep,h.get? a=some o/\o.ExactDict/\o.data=.dict es ep/\es.toList=xs.map (entryOfKey (tupleKind (mixKind P w)))/\(xs.map (·.1)).Nodup
 | .set S n=>h.SetOf (intKind P w) a S n
 | .ins C dx fs=>H dx=some (.own a)/\fs.length<=1000/\dx≠a/\h.get? a=some (PySem.W.instObj C dx) /\
   ∃ mA,h.Ns1 dx mA/\(∀ f,RelO (fs.lookup f) (mA f))/\PySem.Within mA (fs.map (·.1))
 | .own _=>∃ o,h.get? a=some o
 | .xd fs=>∃ mA,h.Ns1 a mA/\∀ f,RelO (fs.lookup f) (mA f)
 | .rng lo hi=>∃ t u v,h.get? a=some { cls:=.type "range",data:=.fields #[.int lo t,.int hi u,.int 1 v] }
 | .frz o u=>h.get? a=some o/\ObjOk H h a u
 | .tbl ps=>h.get? a=some { cls:=.none,data:=.fields ps }
 | .met f x=>h.get? a=some (PySem.W.methodObj (.ref f) (.ref x))
 | .ext φ=>φ h/\(∃ o,h.get? a=some o)/\∀ h1 h2:Heap,φ h1->(∀ o,h1.get? a=some o->h2.get? a=some o)->φ h2
noncomputable def HOk (H:Hp)(h:Heap):Prop:=∀ a o,H a=some o->ObjOk P w H h a o
end
section
variable {P:Program}{w:World}{H H':Hp}{h h':Heap}{a:Addr}{o:HO}
theorem ObjOk.lt (x:ObjOk P w H h a o):a<h.objs.size:=by
 cases o with
 | lst xs=>obtain ⟨_,_,_,_,e⟩:=x;exact Heap.lt_size e
 | tup xs=>obtain ⟨_,_,_,p⟩:=x;exact p.tup.lt
 | dK kvs=>obtain ⟨_,_,_,_,o,_,_,e,_⟩:=x;exact Heap.lt_size e
 | dT kvs=>obtain ⟨_,_,_,_,o,_,_,e,_⟩:=x;exact Heap.lt_size e
 | set S n=>obtain ⟨o,_,_,_,e,_⟩:=x;exact Heap.lt_size e
 | ins C dx fs=>obtain ⟨_,_,_,e,_⟩:=x;exact Heap.lt_size e
 | own y=>obtain ⟨_,e⟩:=x;exact Heap.lt_size e
 | xd fs=>obtain ⟨_,⟨_,_,_,e,_⟩,_⟩:=x;exact Heap.lt_size e
 | rng lo hi=>obtain ⟨_,_,_,e⟩:=x;exact Heap.lt_size e
 | frz ob u=>obtain ⟨e,_⟩:=x;exact Heap.lt_size e
 | tbl ps=>exact Heap.lt_size (show h.get? a=some _ from x)
 | met f y=>exact Heap.lt_size (show h.get? a=some _ from x)
 | ext φ=>obtain ⟨_,⟨_,e⟩,_⟩:=x;exact Heap.lt_size e
theorem Paired.mapP {α β:Type}{F G:α->β->Prop}:∀ {l₁:List α}{l₂:List β},Paired F l₁ l₂->(∀ a b,F a b->G a b)->Paired G l₁ l₂
 | _,_,.nil,_=>.nil
 | _,_,.cons r t,f=>.cons (f _ _ r) (Paired.mapP t f)
theorem ObjOk.stay (x:ObjOk P w H h a o)(k:∀ b u,(b=a\/H b=some (.own a))->h.get? b=some u->h'.get? b=some u)
  (ho:∀ b,H b=some (.own a)->H' b=some (.own a))(ht:∀ b xs,H b=some (.tup xs)->H' b=some (.tup xs)):ObjOk P w H' h' a o:=by
 induction o with
 | lst xs=>obtain ⟨z,its,n,r,e⟩:=x;exact ⟨z,its,n,r,k _ _ (.inl rfl) e⟩
 | tup xs=>obtain ⟨z,its,r,ob,e,c⟩:=x;exact ⟨z,its,r,ob,k _ _ (.inl rfl) e,c⟩
 | dK kvs=>obtain ⟨z,y,vs,r,ob,es,ep,e,c⟩:=x;exact ⟨z,y,vs,r,ob,es,ep,k _ _ (.inl rfl) e,c⟩
 | dT kvs=>
  obtain ⟨z,y,xs,r,ob,es,ep,e,c⟩:=x
  exact ⟨z,y,xs,Paired.mapP r fun p q z=>⟨z.1,ht _ _ z.2.1,z.2.2⟩,ob,es,ep,k _ _ (.inl rfl) e,c⟩
 | set S n=>obtain ⟨ob,es,ep,t,e,c⟩:=x;exact ⟨ob,es,ep,t,k _ _ (.inl rfl) e,c⟩
 | ins C dx fs=>
  obtain ⟨d,z,ne,e,mA,⟨od,es,ep,e2,c⟩,r⟩:=x
  exact ⟨ho _ d,z,ne,k _ _ (.inl rfl) e,mA,⟨od,es,ep,k _ _ (.inr d) e2,c⟩,r⟩
 | own y=>obtain ⟨ob,e⟩:=x;exact ⟨ob,k _ _ (.inl rfl) e⟩
 | xd fs=>obtain ⟨mA,⟨od,es,ep,e,c⟩,r⟩:=x;exact ⟨mA,⟨od,es,ep,k _ _ (.inl rfl) e,c⟩,r⟩
 | rng lo hi=>obtain ⟨t,u,v,e⟩:=x;exact ⟨t,u,v,k _ _ (.inl rfl) e⟩
 | frz ob u ih=>obtain ⟨e,q⟩:=x;exact ⟨k _ _ (.inl rfl) e,ih q⟩
 | tbl ps=>
  have e:h.get? a=some { cls:=.none,data:=.fields ps }:=x
  show h'.get? a=some { cls:=.none,data:=.fields ps }
  exact k a _ (.inl rfl) e
 | met f y=>
  have e:h.get? a=some (PySem.W.methodObj (.ref f) (.ref y)):=x
  show h'.get? a=some (PySem.W.methodObj (.ref f) (.ref y))
  exact k a _ (.inl rfl) e
 | ext φ=>obtain ⟨p,⟨o,e⟩,st⟩:=x;exact ⟨st _ _ p fun o q=>k _ _ (.inl rfl) q,⟨o,k _ _ (.inl rfl) e⟩,st⟩
theorem HOk.lt (x:HOk P w H h)(e:H a=some o):a<h.objs.size:=(x a o e).lt
theorem HOk.fresh (x:HOk P w H h)(e:h.objs.size<=a):H a=none:=by
 cases q:H a with
 | none=>rfl
 | some u=>exact absurd (Nat.lt_of_lt_of_le (x.lt q) e) (Nat.lt_irrefl _)
theorem HOk.kept (x:HOk P w H h)(k:∀ b u,h.get? b=some u->h'.get? b=some u):HOk P w H h':=fun a o e=>
 (x a o e).stay (fun b u _ q=>k b u q) (fun _ q=>q) fun _ _ q=>q
theorem HOk.laid (x:HOk P w H h)(k:∀ b u,h.get? b=some u->h'.get? b=some u)(hp:h.objs.size<=a)(new:ObjOk P w (upd H a o) h' a o):HOk P w (upd H a o) h':=fun b u e=>by
 have hn:=x.fresh hp
 by_cases hb:b=a
 ·subst hb;rw [upd_same] at e;cases e;exact new
 ·rw [upd_ne hb] at e
  exact (x b u e).stay (fun c v _ q=>k c v q) (fun c q=>by rw [upd_ne (ne_of_none q hn)];exact q) fun c xs q=>by rw [upd_ne (ne_of_none q hn)];exact q
end
noncomputable def Rd (H:Hp)(a:Addr)(u:HO):Prop:=H a=some u\/∃ o,H a=some (.frz o u)
theorem Rd.of {H:Hp}{a:Addr}{u:HO}(h:H a=some u):Rd H a u:=.inl h
theorem Rd.ok {P:Program}{w:World}{H:Hp}{h:Heap}{a:Addr}{u:HO}(r:Rd H a u)(x:HOk P w H h):ObjOk P w H h a u:=by
 rcases r with r|⟨o,r⟩
 ·exact x a u r
 ·obtain ⟨_,q⟩:=x a _ r
  exact q
noncomputable def Mut:Option HO->Prop
 | some (.lst _)=>True
 | some (.dK _)=>True
 | some (.dT _)=>True
 | some (.set _ _)=>True
 | some (.ins _ _ _)=>True
 | some (.ext _)=>True
 | _=>False
section
variable {P:Program}{w:World}{H:Hp}{h h':Heap}{x e:Addr}{o':HO}
theorem HOk.write (ok:HOk P w H h)(mu:Mut (H x))(he:e=x\/H e=some (.own x))(k:∀ b u,b≠e->h.get? b=some u->h'.get? b=some u)(heo:∃ u,h'.get? e=some u)
  (new:ObjOk P w (upd H x o') h' x o'):HOk P w (upd H x o') h':=fun b u q=>by
 have nown:∀ c y,H c=some (.own y)->c≠x:=fun c y r z=>by subst z;rw [r] at mu;exact mu
 have ntup:∀ c xs,H c=some (.tup xs)->c≠x:=fun c xs r z=>by subst z;rw [r] at mu;exact mu
 by_cases hb:b=x
 ·subst hb;rw [upd_same] at q;cases q;exact new
 ·rw [upd_ne hb] at q
  by_cases hbe:b=e
  ·have q':H b=some (.own x):=by
    rcases he with z|z
    ·exact absurd (hbe.trans z) hb
    ·rw [hbe];exact z
   rw [q] at q';cases q'
   obtain ⟨v,hv⟩:=heo
   exact ⟨v,by rw [hbe];exact hv⟩
  ·refine (ok b u q).stay (fun c v hc r=>k c v ?_ r) (fun c r=>by rw [upd_ne (nown c b r)];exact r) fun c xs r=>by rw [upd_ne (ntup c xs r)];exact r
   rcases hc with rfl|hc
   ·exact hbe
   ·rintro rfl
    rcases he with z|z
    ·exact nown c b hc z
    ·rw [hc] at z;cases z;exact hb rfl
end
structure Un (fs ex:List Addr)(H H':Hp)(h h':Heap):Prop where
 keep:∀ b o,h.get? b=some o->H b=none->b∉fs->b∉ex->h'.get? b=some o
 slot:∀ b o,h.get? b=some o->H b=none->b∈fs->b∉ex->∃ sl,h'.get? b=some { o with slots:=sl }
 free:∀ b o,h.get? b=some o->H b=none->b∉ex->H' b=none
 there:∀ b o,h.get? b=some o->b∉ex->∃ o',h'.get? b=some o'
 tups:∀ b xs,H b=some (.tup xs)->H' b=some (.tup xs)
 frzs:∀ b o u,H b=some (.frz o u)->H' b=some (.frz o u)
 tbls:∀ b ps,H b=some (.tbl ps)->∃ more,H' b=some (.tbl (ps++more))
section
variable {fs fs' ex ex':List Addr}{H H1 H2:Hp}{h h1 h2 h':Heap}{a x e:Addr}{o:HO}
theorem Un.any (u:Un fs ex H H1 h h1){b:Addr}{ob:Obj}(q:h.get? b=some ob)(n:H b=none)(hx:b∉ex):∃ sl,h1.get? b=some { ob with slots:=sl }:=by
 by_cases hb:b∈fs
 ·exact u.slot b ob q n hb hx
 ·exact ⟨ob.slots,u.keep b ob q n hb hx⟩
theorem Un.trans (a:Un fs ex H H1 h h1)(b:Un fs ex H1 H2 h1 h2):Un fs ex H H2 h h2 where
 keep:=fun c ob q n hc hx=>b.keep c ob (a.keep c ob q n hc hx) (a.free c ob q n hx) hc hx
 slot:=fun c ob q n hc hx=>by
  obtain ⟨sl,e1⟩:=a.slot c ob q n hc hx
  obtain ⟨sl',e2⟩:=b.slot c _ e1 (a.free c ob q n hx) hc hx
  exact ⟨sl',e2⟩
 free:=fun c ob q n hx=>by
  obtain ⟨o',e1⟩:=a.there c ob q hx
  exact b.free c o' e1 (a.free c ob q n hx) hx
 there:=fun c ob q hx=>by
  obtain ⟨o',e1⟩:=a.there c ob q hx
  exact b.there c o' e1 hx
 tups:=fun c xs q=>b.tups c xs (a.tups c xs q)
 frzs:=fun c ob xs q=>b.frzs c ob xs (a.frzs c ob xs q)
 tbls:=fun c ps q=>by
  obtain ⟨m1,e1⟩:=a.tbls c ps q
  obtain ⟨m2,e2⟩:=b.tbls c _ e1
  exact ⟨m1++m2,by rw [e2,Array.append_assoc]⟩
theorem Un.kept (k:∀ b u,h.get? b=some u->h'.get? b=some u):Un fs ex H H h h':=
 ⟨fun b ob q _ _ _=>k b ob q,fun b ob q _ _ _=>⟨ob.slots,k b ob q⟩,fun _ _ _ n _=>n,fun b ob q _=>⟨ob,k b ob q⟩,fun _ _ q=>q,fun _ _ _ q=>q,fun _ ps q=>⟨#[],by rw [q];simp⟩⟩
theorem Un.refl:Un fs ex H H h h:=Un.kept fun _ _ q=>q
theorem Un.laid (k:∀ b u,h.get? b=some u->h'.get? b=some u)(hp:h.objs.size<=a)(hn:H a=none):Un fs ex H (upd H a o) h h' where
 keep:=fun b u q _ _ _=>k b u q
 slot:=fun b u q _ _ _=>⟨u.slots,k b u q⟩
 free:=fun b u q n _=>by rw [upd_ne (Nat.ne_of_lt (Nat.lt_of_lt_of_le (Heap.lt_size q) hp))];exact n
 there:=fun b u q _=>⟨u,k b u q⟩
 tups:=fun b xs q=>by rw [upd_ne (ne_of_none q hn)];exact q
 frzs:=fun b u xs q=>by rw [upd_ne (ne_of_none q hn)];exact q
 tbls:=fun b ps q=>⟨#[],by rw [upd_ne (ne_of_none q hn),q];simp⟩
theorem Un.write (mu:Mut (H x))(he:e=x\/H e=some (.own x))(k:∀ b u,b≠e->h.get? b=some u->h'.get? b=some u)(heo:∃ u,h'.get? e=some u):Un fs ex H (upd H x o) h h':=by
 have hx:∀ b,H b=none->b≠x:=fun b n z=>by subst z;rw [n] at mu;exact mu
 have hb:∀ b,H b=none->b≠e:=fun b n z=>by
  subst z
  rcases he with r|r
  ·exact hx b n r
  ·rw [n] at r;cases r
 have hm:∀ b u,H b=some u->¬ Mut (some u)->b≠x:=fun b u q nm z=>by subst z;rw [q] at mu;exact nm mu
 refine ⟨fun b u q n _ _=>k b u (hb b n) q,fun b u q n _ _=>⟨u.slots,k b u (hb b n) q⟩,fun b u q n _=>by rw [upd_ne (hx b n)];exact n,fun b u q _=>?_,
  fun b xs q=>by rw [upd_ne (hm b _ q fun z=>z)];exact q,fun b u xs q=>by rw [upd_ne (hm b _ q fun z=>z)];exact q,fun b ps q=>⟨#[],by rw [upd_ne (hm b _ q fun z=>z),q];simp⟩⟩
 by_cases hbe:b=e
 ·subst hbe;exact heo
 ·exact ⟨u,k b u hbe q⟩
end
noncomputable def trk (h:Heap)(H:Hp):List Addr:=(List.range h.objs.size).filter fun a=>(H a).isSome
noncomputable def hidT (h:Heap)(H:Hp):Heap:=PySem.W.hideAll h (trk h H)
theorem hidT_size (h:Heap)(H:Hp):(hidT h H).objs.size=h.objs.size:=PySem.W.hideAll_size _ _
theorem hidT_get {h:Heap}{H:Hp}{b:Addr}{o:Obj}(e:h.get? b=some o)(n:H b=none):(hidT h H).get? b=some o:=
 PySem.W.hideAll_get _ e fun hm=>by
  have q:(H b).isSome=true:=(List.mem_filter.mp hm).2
  rw [n] at q;simp at q
theorem of_hidT {h:Heap}{H:Hp}{b:Addr}{o:Obj}(e:(hidT h H).get? b=some o):h.get? b=some o/\H b=none:=by
 have e':h.get? b=some o:=PySem.W.of_hideAll (trk h H) e
 refine ⟨e',?_⟩
 cases q:H b with
 | none=>rfl
 | some x=>
  have hm:b∈trk h H:=List.mem_filter.mpr ⟨List.mem_range.mpr (Heap.lt_size e'),by simp [q]⟩
  have z:(hidT h H).get? b=none:=PySem.W.hideAll_none (trk h H) hm
  rw [z] at e;cases e
noncomputable def allNews (g h:Heap)(L:Addr):List (Addr×Obj):=(List.range h.objs.size).filterMap fun a=>if a=L\/(g.get? a).isSome=true then none else (h.get? a).map fun o=>(a,o)
theorem mem_allNews {g h:Heap}{L a:Addr}{o:Obj}(h1:a≠L)(h2:g.get? a=none)(h3:h.get? a=some o):(a,o)∈allNews g h L:=
 List.mem_filterMap.mpr ⟨a,List.mem_range.mpr (Heap.lt_size h3),by simp [h1,h2,h3]⟩
theorem of_mem_allNews {g h:Heap}{L:Addr}{p:Addr×Obj}(hp:p∈allNews g h L):p.1≠L/\g.get? p.1=none/\h.get? p.1=some p.2:=by
 obtain ⟨b,_,e⟩:=List.mem_filterMap.mp hp
 split at e
 ·cases e
 ·rename_i hn
  cases q:h.get? b with
  | none=>rw [q] at e;simp at e
  | some u=>
   rw [q] at e
   simp only [Option.map_some,Option.some.injEq] at e
   subst e
   refine ⟨fun z=>hn (.inl z),?_,q⟩
   show g.get? b=none
   cases r:g.get? b with
   | none=>rfl
   | some v=>exact (hn (.inr (by simp [r]))).elim
noncomputable def rest (g h:Heap)(L d:Addr):List (Addr×Obj):=(allNews g h L).filter fun p=>decide (p.1≠d)
theorem news_all {g h:Heap}{L:Addr}:News g L h (allNews g h L):=fun p hp=>let ⟨a,b,c⟩:=of_mem_allNews hp;⟨c,a,b⟩
end L2
namespace L2
open PySem PySem.Spec PyProof.Rows
structure Mod (K:PySem.W.Frag)(mg:Str->Option Value)(base:Heap):Prop where
 kin:K.In base
 glob:base.Ns mainGlobals mg
 blt:∃ mb,base.Ns builtinsNs mb/\∀ x:Str,x ≠ "__name__"->mb x=bootBuiltins x
 nolimit:base.NoLimit
structure Cx where
 prog:Program
 w:World
 K:PySem.W.Frag
 mg:Str->Option Value
 base:Heap
 A:Around
 N:List Str
 s₀:Shared
 H₀:Hp
 env:Env
 outer:List Env
 stack:List Env
 ex:List Addr
 fn:Str->Bool
 calm:Bool
 pn:List (Addr×Obj)
 xe:Value->Shared->Prop
noncomputable def frs (l:List Env):List Addr:=l.filterMap (·.frame)
noncomputable abbrev Cx.fs (X:Cx):List Addr:=frs X.outer
noncomputable def Vis (sc:Scope)(x:Str):Prop:=sc.names.lookup x=some .local\/sc.names.lookup x=some .cell\/sc.names.lookup x=some .free
noncomputable def Loc (sc:Scope)(x:Str):Prop:=sc.names.lookup x=some .local\/sc.names.lookup x=some .cell
noncomputable def Look (env:Env)(h:Heap)(m:Str->Option Value)(x:Str)(u:Value):Prop:=
 (env.kindOf x=some .local/\m x=some u)\/((env.kindOf x=some .cell\/env.kindOf x=some .free)/\∃ c,env.cells.lookup x=some c/\h.IsCell c (some u))
structure Cx.Ok (X:Cx):Prop where
 mod:Mod X.K X.mg X.base
 kind:X.env.scope.kind=.function
 glob:X.env.globals=mainGlobals
 blt:X.env.builtins=builtinsNs
 above:X.s₀.heap.objs.size<=X.env.locals
 inj:∀ x y c,X.env.cells.lookup x=some c->X.env.cells.lookup y=some c->x=y
 has:∀ x,(X.env.kindOf x=some .cell\/X.env.kindOf x=some .free)->∃ c,X.env.cells.lookup x=some c
 cab:∀ x c,X.fn x=true->X.env.cells.lookup x=some c->X.s₀.heap.objs.size<=c
 hd:X.calm=true->X.A.handled=none
 frames:X.A.frames=some X.stack
 stk:X.stack=X.outer\/(X.stack=X.env::X.outer/\X.env.frame=some X.env.locals)
 exf:∀ b∈X.ex,b≠X.env.locals/\∀ x c,X.env.cells.lookup x=some c->c≠b
 bs:∀ b o,X.base.get? b=some o->X.s₀.heap.get? b=some o/\X.H₀ b=none
 bsz:X.base.objs.size<=X.s₀.heap.objs.size
 noex:∀ b o,X.base.get? b=some o->b∉X.ex
 exfs:∀ b∈X.ex,b∉X.fs
 funs:X.s₀.heap.FunFrames X.base X.outer
 frf:∀ b∈X.fs,X.H₀ b=none
structure Inv (X:Cx)(pins:List (Addr×Obj))(σ:List (Option V))(H:Hp)(s:Shared):Prop where
 ok:X.Ok
 os:s.os=X.s₀.os
 bare:AllBare s.gens
 base:Un X.fs X.ex X.H₀ H X.s₀.heap s.heap
 loc:∃ m,s.heap.Ns X.env.locals m/\∀ (i:Nat)(x:Str)(v:V),X.N[i]? = some x->σ[i]? = some (some v)->Vis X.env.scope x->∃ u,RelV v u/\Look X.env s.heap m x u
 cell:∀ x c,X.env.cells.lookup x=some c->∃ v,s.heap.IsCell c v
 free:H X.env.locals=none
 freeC:∀ x c,X.env.cells.lookup x=some c->H c=none
 pin:∀ p∈X.pn++pins,s.heap.get? p.1=some p.2/\H p.1=none/\p.1≠X.env.locals/\p.1∉X.fs/\∀ v,p.2.data≠.cell v
 hok:HOk X.prog X.w H s.heap
 len:σ.length=X.N.length
section
variable {X:Cx}{pins:List (Addr×Obj)}{σ:List (Option V)}{H H':Hp}{s:Shared}{h':Heap}
theorem Cx.Ok.nofr (ok:X.Ok){b:Addr}{o:Obj}(e:X.base.get? b=some o):b∉X.fs:=fun hb=>by
 have:=(ok.funs.mem hb).1
 rw [e] at this;cases this
theorem Inv.bs (I:Inv X pins σ H s):∀ b o,X.base.get? b=some o->s.heap.get? b=some o/\H b=none:=fun b o e=>
 ⟨I.base.keep b o (I.ok.bs b o e).1 (I.ok.bs b o e).2 (I.ok.nofr e) (I.ok.noex b o e),I.base.free b o (I.ok.bs b o e).1 (I.ok.bs b o e).2 (I.ok.noex b o e)⟩
theorem Inv.bk (I:Inv X pins σ H s):∀ b o,X.base.get? b=some o->s.heap.get? b=some o:=fun b o e=>(I.bs b o e).1
theorem Inv.mod (I:Inv X pins σ H s):Mod X.K X.mg X.base:=I.ok.mod
theorem Inv.kIn (I:Inv X pins σ H s):X.K.In s.heap:=I.ok.mod.kin.keeps I.bk
theorem Inv.nolimit (I:Inv X pins σ H s):s.heap.NoLimit:=I.ok.mod.nolimit.keeps I.bk
theorem Inv.fr (I:Inv X pins σ H s):∃ m,Fr X.base X.env.locals s.heap m:=
 let ⟨m,hn,_⟩:=I.loc
 ⟨m,hn,I.bk,Nat.le_trans I.ok.bsz I.ok.above⟩
theorem Inv.lt (I:Inv X pins σ H s):X.env.locals<s.heap.objs.size:=let ⟨_,hn,_⟩:=I.loc;hn.lt
theorem Inv.sz (I:Inv X pins σ H s):X.s₀.heap.objs.size<=s.heap.objs.size:=Nat.le_trans I.ok.above (Nat.le_of_lt I.lt)
theorem Inv.nofs (I:Inv X pins σ H s){a:Addr}(h:s.heap.objs.size<=a):a∉X.fs:=fun hb=>by
 obtain ⟨_,o,ho,_⟩:=I.ok.funs.mem hb
 exact absurd (Nat.lt_of_lt_of_le (Heap.lt_size ho) (Nat.le_trans I.sz h)) (Nat.lt_irrefl _)
theorem Inv.cne (I:Inv X pins σ H s):∀ x c,X.env.cells.lookup x=some c->c≠X.env.locals:=fun x c e z=>by
 obtain ⟨v,o,ho,hd⟩:=I.cell x c e
 obtain ⟨m,⟨o',es,ep,ho',hd',_⟩,_⟩:=I.loc
 rw [z,ho'] at ho;cases ho;rw [hd'] at hd;cases hd
theorem Inv.funs (I:Inv X pins σ H s):s.heap.FunFrames X.base X.outer:=by
 have all:∀ (l:List Env),(∀ b∈frs l,b∈X.fs)->X.s₀.heap.FunFrames X.base l->s.heap.FunFrames X.base l:=by
  intro l
  induction l with
  | nil=>intro _ _;trivial
  | cons env r ih=>
   intro hs hl
   obtain ⟨hk,⟨L,o,hf,hn,ho,hd⟩,hr⟩:=hl
   have hL:L∈X.fs:=hs L (by unfold frs;rw [List.filterMap_cons,hf];exact List.mem_cons_self)
   obtain ⟨sl,e⟩:=I.base.slot L o ho (I.ok.frf L hL) hL fun z=>I.ok.exfs L z hL
   exact ⟨hk,⟨L,_,hf,hn,e,hd⟩,ih (fun b hb=>hs b (by unfold frs;rw [List.filterMap_cons,hf];exact List.mem_cons_of_mem _ hb)) hr⟩
 exact all X.outer (fun _ hb=>hb) I.ok.funs
theorem Inv.stack (I:Inv X pins σ H s):s.heap.FunFrames X.base X.stack:=by
 rcases I.ok.stk with e|⟨e,hf⟩
 ·rw [e];exact I.funs
 ·rw [e]
  obtain ⟨m,hn,_⟩:=I.loc
  refine .cons (by rw [I.ok.kind];decide) hf hn ?_ I.funs
  exact Heap.get?_none_of_le (Nat.le_trans I.ok.bsz I.ok.above)
theorem Inv.stkSub (I:Inv X pins σ H s):∀ b∈frs X.stack,b∈X.env.locals::X.fs:=fun b hb=>by
 rcases I.ok.stk with e|⟨e,hf⟩
 ·rw [e] at hb;exact List.mem_cons_of_mem _ hb
 ·rw [e] at hb
  unfold frs at hb
  rw [List.filterMap_cons,hf] at hb
  exact hb
theorem Inv.stkFree (I:Inv X pins σ H s):∀ b∈frs X.stack,H b=none:=fun b hb=>by
 rcases List.mem_cons.mp (I.stkSub b hb) with e|hb
 ·rw [e];exact I.free
 ·obtain ⟨_,o,ho,_⟩:=I.ok.funs.mem hb
  exact I.base.free b o ho (I.ok.frf b hb) fun z=>I.ok.exfs b z hb
theorem Inv.step {g':Array GenState}{t':Nat}{d':Drawn}{ch:List Addr}(I:Inv X pins σ H s)
  (hch:∀ b∈ch,(b∈X.ex\/X.s₀.heap.objs.size<=b)/\b≠X.env.locals/\(∀ x c,X.env.cells.lookup x=some c->c≠b)/\∀ p∈X.pn++pins,p.1≠b)
  (keep:∀ b o,b≠X.env.locals->b∉X.fs->b∉ch->s.heap.get? b=some o->H b=none->h'.get? b=some o)
  (slot:∀ b o,b≠X.env.locals->b∈X.fs->b∉ch->s.heap.get? b=some o->H b=none->∃ sl,h'.get? b=some { o with slots:=sl })(free:∀ b o,b∉ch->s.heap.get? b=some o->H b=none->H' b=none)
  (there:∀ b o,b∉ch->s.heap.get? b=some o->∃ o',h'.get? b=some o')
  (tups:∀ b xs,H b=some (.tup xs)->H' b=some (.tup xs))(frzs:∀ b o u,H b=some (.frz o u)->H' b=some (.frz o u))(tbls:∀ b ps,H b=some (.tbl ps)->∃ more,H' b=some (.tbl (ps++more)))
  (ns:∀ m,s.heap.Ns X.env.locals m->h'.Ns X.env.locals m)(hok:HOk X.prog X.w H' h')(hg:AllBare g') :
  Inv X pins σ H' { s with heap:=h',gens:=g',drawn:=d',toks:=t' }:=by
 have neL:∀ b o,X.s₀.heap.get? b=some o->b≠X.env.locals:=fun b o e=>Nat.ne_of_lt (Nat.lt_of_lt_of_le (Heap.lt_size e) I.ok.above)
 have neC:∀ b o,X.s₀.heap.get? b=some o->b∉X.ex->b∉ch:=fun b o e hx hb=>by
  rcases (hch b hb).1 with z|z
  ·exact hx z
  ·exact absurd (Nat.lt_of_lt_of_le (Heap.lt_size e) z) (Nat.lt_irrefl _)
 have cellK:∀ x c,X.env.cells.lookup x=some c->∀ v,s.heap.IsCell c v->h'.IsCell c v:=fun x c e v ⟨o,ho,hd⟩=>by
  have nch:c∉ch:=fun z=>(hch c z).2.2.1 x c e rfl
  by_cases hc:c∈X.fs
  ·obtain ⟨sl,q⟩:=slot c o (I.cne x c e) hc nch ho (I.freeC x c e)
   exact ⟨_,q,hd⟩
  ·exact ⟨o,keep c o (I.cne x c e) hc nch ho (I.freeC x c e),hd⟩
 refine ⟨I.ok,I.os,hg,⟨fun b o e n hb hx=>?_,fun b o e n hb hx=>?_,fun b o e n hx=>?_,fun b o e hx=>?_,fun b xs e=>tups b xs (I.base.tups b xs e),fun b o xs e=>frzs b o xs (I.base.frzs b o xs e),fun b ps e=>?_⟩,?_,fun x c e=>?_,?_,fun x c e=>?_,fun p hp=>?_,hok,I.len⟩
 ·exact keep b o (neL b o e) hb (neC b o e hx) (I.base.keep b o e n hb hx) (I.base.free b o e n hx)
 ·obtain ⟨sl,e1⟩:=I.base.slot b o e n hb hx
  obtain ⟨sl',e2⟩:=slot b _ (neL b o e) hb (neC b o e hx) e1 (I.base.free b o e n hx)
  exact ⟨sl',e2⟩
 ·obtain ⟨o',e1⟩:=I.base.there b o e hx
  exact free b o' (neC b o e hx) e1 (I.base.free b o e n hx)
 ·obtain ⟨o',e1⟩:=I.base.there b o e hx
  exact there b o' (neC b o e hx) e1
 ·obtain ⟨m1,e1⟩:=I.base.tbls b ps e
  obtain ⟨m2,e2⟩:=tbls b _ e1
  exact ⟨m1++m2,by rw [e2,Array.append_assoc]⟩
 ·obtain ⟨m,hn,hl⟩:=I.loc
  refine ⟨m,ns m hn,fun i x v e1 e2 e3=>?_⟩
  obtain ⟨u,r,l⟩:=hl i x v e1 e2 e3
  refine ⟨u,r,?_⟩
  rcases l with l|⟨k,c,e,z⟩
  ·exact .inl l
  ·exact .inr ⟨k,c,e,cellK x c e _ z⟩
 ·obtain ⟨v,z⟩:=I.cell x c e
  exact ⟨v,cellK x c e v z⟩
 ·obtain ⟨m,⟨o,_,_,ho,_⟩,_⟩:=I.loc
  exact free _ o (fun z=>(hch _ z).2.1 rfl) ho I.free
 ·obtain ⟨v,o,ho,hd⟩:=I.cell x c e
  exact free c o (fun z=>(hch c z).2.2.1 x c e rfl) ho (I.freeC x c e)
 ·obtain ⟨e,n,ne,nf,d⟩:=I.pin p hp
  have nch:p.1∉ch:=fun z=>(hch p.1 z).2.2.2 p hp rfl
  exact ⟨keep p.1 p.2 ne nf nch e n,free p.1 p.2 nch e n,ne,nf,d⟩
theorem Inv.un {t':Nat}(I:Inv X pins σ H s)(u:Un X.fs [] H H' s.heap h')(hok:HOk X.prog X.w H' h'):Inv X pins σ H' { s with heap:=h',toks:=t' }:=by
 obtain ⟨m,⟨o,es,ep,ho,r⟩,_⟩:=id I.loc
 obtain ⟨sl,hL⟩:=u.any ho I.free (by simp)
 exact I.step (g':=s.gens) (d':=s.drawn) (ch:=[]) (fun _ z=>nomatch z) (fun b o _ hb _ e n=>u.keep b o e n hb (by simp)) (fun b o _ hb _ e n=>u.slot b o e n hb (by simp)) (fun b o _ e n=>u.free b o e n (by simp)) (fun b o _ e=>u.there b o e (by simp)) u.tups u.frzs u.tbls (fun m' hm=>by
  obtain ⟨o',es',ep',ho',r'⟩:=hm
  rw [ho] at ho';cases ho'
  exact ⟨_,es',ep',hL,r'⟩) hok I.bare
theorem Inv.call {g':Array GenState}{t':Nat}{d':Drawn}{ch:List Addr}(I:Inv X pins σ H s)(u:Un (frs X.stack) ch H H' s.heap h')(hok:HOk X.prog X.w H' h')(hg:AllBare g')
  (hch:∀ b∈ch,(b∈X.ex\/X.s₀.heap.objs.size<=b)/\b≠X.env.locals/\(∀ x c,X.env.cells.lookup x=some c->c≠b)/\∀ p∈X.pn++pins,p.1≠b) :
  Inv X pins σ H' { s with heap:=h',gens:=g',drawn:=d',toks:=t' }:=by
 obtain ⟨m,⟨o,es,ep,ho,r⟩,_⟩:=id I.loc
 obtain ⟨sl,hL⟩:=u.any ho I.free fun z=>(hch _ z).2.1 rfl
 exact I.step (ch:=ch) hch (fun b o hL hb hc e n=>u.keep b o e n (fun z=>(List.mem_cons.mp (I.stkSub b z)).elim hL hb) hc) (fun b o _ _ hc e n=>u.any e n hc) (fun b o hc e n=>u.free b o e n hc) (fun b o hc e=>u.there b o e hc) u.tups u.frzs u.tbls (fun m' hm=>by
  obtain ⟨o',es',ep',ho',r'⟩:=hm
  rw [ho] at ho';cases ho'
  exact ⟨_,es',ep',hL,r'⟩) hok hg
theorem Inv.turned {t':Nat}{it:Addr}(I:Inv X pins σ H s)(k:∀ b o,b≠it->s.heap.get? b=some o->h'.get? b=some o)(hn:H it=none)(hL:it≠X.env.locals)
  (h1:it∈X.ex\/X.s₀.heap.objs.size<=it)(h2:∀ x c,X.env.cells.lookup x=some c->c≠it)(h3:∀ p∈X.pn++pins,p.1≠it):Inv X pins σ H { s with heap:=h',toks:=t' }:=by
 have nit:∀ b u,H b=some u->b≠it:=fun b u e z=>by rw [z,hn] at e;cases e
 refine I.step (g':=s.gens) (d':=s.drawn) (ch:=[it]) (fun b hb=>?_) (fun b o _ _ hc e _=>k b o (fun z=>hc (by simp [z])) e) (fun b o _ _ hc e _=>⟨o.slots,k b o (fun z=>hc (by simp [z])) e⟩) (fun _ _ _ _ n=>n)
  (fun b o hc e=>⟨o,k b o (fun z=>hc (by simp [z])) e⟩) (fun _ _ e=>e) (fun _ _ _ e=>e) (fun b ps e=>⟨#[],by rw [e];simp⟩) (fun m hm=>?_) (fun b u e=>?_) I.bare
 ·have e:b=it:=by simpa using hb
  subst e
  exact ⟨h1,hL,h2,h3⟩
 ·obtain ⟨o,es,ep,ho,r⟩:=hm
  exact ⟨o,es,ep,k _ o (Ne.symm hL) ho,r⟩
 ·refine (I.hok b u e).stay (fun c v hc q=>k c v ?_ q) (fun _ q=>q) fun _ _ q=>q
  rcases hc with z|z
  ·rw [z];exact nit b u e
  ·exact nit c _ z
theorem Inv.tok (I:Inv X pins σ H s)(t:Nat):Inv X pins σ H { s with toks:=t }:=I.un (h':=s.heap) (t':=t) Un.refl I.hok
theorem Inv.kept {t':Nat}(I:Inv X pins σ H s)(k:∀ b u,s.heap.get? b=some u->h'.get? b=some u):Inv X pins σ H { s with heap:=h',toks:=t' }:=I.un (Un.kept k) (I.hok.kept k)
theorem Inv.laid {a:Addr}{o:HO}{t':Nat}(I:Inv X pins σ H s)(k:∀ b u,s.heap.get? b=some u->h'.get? b=some u)(hp:s.heap.objs.size<=a)(new:ObjOk X.prog X.w (upd H a o) h' a o) :
  Inv X pins σ (upd H a o) { s with heap:=h',toks:=t' }:=I.un (Un.laid k hp (I.hok.fresh hp)) (I.hok.laid k hp new)
theorem Inv.write {x e:Addr}{o:HO}{t':Nat}(I:Inv X pins σ H s)(mu:Mut (H x))(he:e=x\/H e=some (.own x))(k:∀ b u,b≠e->s.heap.get? b=some u->h'.get? b=some u)(heo:∃ u,h'.get? e=some u)
  (new:ObjOk X.prog X.w (upd H x o) h' x o):Inv X pins σ (upd H x o) { s with heap:=h',toks:=t' }:=I.un (Un.write mu he k heo) (I.hok.write mu he k heo new)
theorem Inv.pins_of {pins':List (Addr×Obj)}(I:Inv X pins σ H s)(h:∀ p∈pins',s.heap.get? p.1=some p.2/\H p.1=none/\p.1≠X.env.locals/\p.1∉X.fs/\∀ v,p.2.data≠.cell v):Inv X pins' σ H s:=
 ⟨I.ok,I.os,I.bare,I.base,I.loc,I.cell,I.free,I.freeC,fun p hp=>(List.mem_append.mp hp).elim (fun z=>I.pin p (List.mem_append_left _ z)) (h p),I.hok,I.len⟩
theorem nodup_ix {N:List Str}(hN:N.Nodup){i j:Nat}{x:Str}(a:N[i]? = some x)(b:N[j]? = some x):i=j:=by
 obtain ⟨h1,e1⟩:=Zg.mp a
 obtain ⟨h2,e2⟩:=Zg.mp b
 exact (List.getElem_inj hN).mp (e1.trans e2.symm)
theorem store_ok2 {M:Model}{A:Around}{E:Value->Shared->Prop}{i:Nat}{x:Str}{v:V}{u:Value}{Q:Unit->Shared->Prop}(I:Inv X pins σ H s)(hN:X.N.Nodup)(hi:X.N[i]? = some x)(hx:Loc X.env.scope x)(r:RelV v u)
  (h:∀ s',Inv X pins (σ.set i (some v)) H s'->(∃ a,Heap.SameBut a s.heap s'.heap/\(a=X.env.locals\/X.env.cells.lookup x=some a))->Q () s')(hf:X.fn x=true\/X.env.scope.names.lookup x=some .local:=by first|exact .inl rfl|exact .inr rfl|assumption):wpAny M A (storeName X.env x u) Q E s:=by
 obtain ⟨m,hn,hl⟩:=id I.loc
 have hcls:(X.env.scope.kind == .class||(X.env.scope.kind == .module&&X.env.locals != X.env.globals))=false:=by rw [I.ok.kind];rfl
 have hiσ:i<σ.length:=by rw [I.len];exact (Zg.mp hi).1
 have cne:=I.cne
 have tracked:∀ {a:Addr}{h':Heap},(∃ o,s.heap.get? a=some o/\H a=none)->Heap.SameBut a s.heap h'->HOk X.prog X.w H h':=fun {a h'} ha hs b ob e=>by
  obtain ⟨_,_,hfree⟩:=ha
  refine (I.hok b ob e).stay (fun c w' hc q=>(hs.2 c ?_).trans q) (fun _ q=>q) fun _ _ q=>q
  rintro rfl
  rcases hc with rfl|hc
  ·rw [hfree] at e;cases e
  ·rw [hfree] at hc;cases hc
 rcases hx with hk|hk
 ·refine wpAny_storeName_local hk hn (fun h' hn' hs=>?_) hcls
  obtain ⟨oL,_,_,hoL,_⟩:=id hn
  refine h _ ⟨I.ok,I.os,I.bare,⟨fun b o e n hb hx=>?_,fun b o e n hb hx=>?_,I.base.free,fun b o e hx=>?_,I.base.tups,I.base.frzs,I.base.tbls⟩,⟨_,hn',fun j y v' e1 e2 e3=>?_⟩,fun y c e=>?_,I.free,I.freeC,fun p hp=>?_,tracked ⟨oL,hoL,I.free⟩ hs,by simpa using I.len⟩ ⟨_,hs,.inl rfl⟩
  ·exact (hs.2 b (Nat.ne_of_lt (Nat.lt_of_lt_of_le (Heap.lt_size e) I.ok.above))).trans (I.base.keep b o e n hb hx)
  ·obtain ⟨sl,e1⟩:=I.base.slot b o e n hb hx
   exact ⟨sl,(hs.2 b (Nat.ne_of_lt (Nat.lt_of_lt_of_le (Heap.lt_size e) I.ok.above))).trans e1⟩
  ·obtain ⟨o',e1⟩:=I.base.there b o e hx
   exact ⟨o',(hs.2 b (Nat.ne_of_lt (Nat.lt_of_lt_of_le (Heap.lt_size e) I.ok.above))).trans e1⟩
  ·by_cases hj:j=i
   ·subst hj
    rw [hi] at e1;cases e1
    rw [List.getElem?_set_self hiσ] at e2
    cases e2
    exact ⟨u,r,.inl ⟨hk,by simp⟩⟩
   ·rw [List.getElem?_set_ne (Ne.symm hj)] at e2
    obtain ⟨u',r',q⟩:=hl j y v' e1 e2 e3
    refine ⟨u',r',?_⟩
    rcases q with ⟨k,e⟩|⟨k,c,e,z⟩
    ·refine .inl ⟨k,?_⟩
     have:y≠x:=fun e=>hj (nodup_ix hN e1 (e ▸ hi))
     simp [this,e]
    ·exact .inr ⟨k,c,e,z.sameBut hs (cne y c e)⟩
  ·obtain ⟨w',z⟩:=I.cell y c e
   exact ⟨w',z.sameBut hs (cne y c e)⟩
  ·obtain ⟨e,n,ne,nf,d⟩:=I.pin p hp
   exact ⟨(hs.2 p.1 ne).trans e,n,ne,nf,d⟩
 ·have hfn:X.fn x=true:=by
   rcases hf with z|z
   ·exact z
   ·rw [z] at hk;cases hk
  obtain ⟨c,hc⟩:=I.ok.has x (.inl hk)
  obtain ⟨w',z⟩:=I.cell x c hc
  refine wpAny_storeName_cell I.ok.kind hk hc z (fun h' hc' hs=>?_)
  obtain ⟨oc,hoc,hocd⟩:=id z
  refine h { s with heap:=h' } ⟨I.ok,I.os,I.bare,⟨fun b o e n hb hx=>?_,fun b o e n hb hx=>?_,I.base.free,fun b o e hx=>?_,I.base.tups,I.base.frzs,I.base.tbls⟩,⟨m,hn.sameBut hs (Ne.symm (cne x c hc)),fun j y v' e1 e2 e3=>?_⟩,fun y c' e=>?_,I.free,I.freeC,fun p hp=>?_,tracked ⟨oc,hoc,I.freeC x c hc⟩ hs,by simpa using I.len⟩ ⟨c,hs,.inr hc⟩
  ·exact (hs.2 b (Nat.ne_of_lt (Nat.lt_of_lt_of_le (Heap.lt_size e) (I.ok.cab x c hfn hc)))).trans (I.base.keep b o e n hb hx)
  ·obtain ⟨sl,e1⟩:=I.base.slot b o e n hb hx
   exact ⟨sl,(hs.2 b (Nat.ne_of_lt (Nat.lt_of_lt_of_le (Heap.lt_size e) (I.ok.cab x c hfn hc)))).trans e1⟩
  ·obtain ⟨o',e1⟩:=I.base.there b o e hx
   exact ⟨o',(hs.2 b (Nat.ne_of_lt (Nat.lt_of_lt_of_le (Heap.lt_size e) (I.ok.cab x c hfn hc)))).trans e1⟩
  ·by_cases hj:j=i
   ·subst hj
    rw [hi] at e1;cases e1
    rw [List.getElem?_set_self hiσ] at e2
    cases e2
    exact ⟨u,r,.inr ⟨.inl hk,c,hc,hc'⟩⟩
   ·rw [List.getElem?_set_ne (Ne.symm hj)] at e2
    obtain ⟨u',r',q⟩:=hl j y v' e1 e2 e3
    refine ⟨u',r',?_⟩
    rcases q with q|⟨k,c',e,z'⟩
    ·exact .inl q
    ·refine .inr ⟨k,c',e,z'.sameBut hs ?_⟩
     rintro rfl
     exact hj (nodup_ix hN e1 (I.ok.inj _ _ _ e hc ▸ hi))
  ·by_cases hcc:c'=c
   ·subst hcc;exact ⟨_,hc'⟩
   ·obtain ⟨w2,z2⟩:=I.cell y c' e
    exact ⟨w2,z2.sameBut hs hcc⟩
  ·obtain ⟨e,n,ne,nf,d⟩:=I.pin p hp
   refine ⟨(hs.2 p.1 ?_).trans e,n,ne,nf,d⟩
   intro q
   rw [q,hoc] at e
   have q':oc=p.2:=Option.some.inj e
   exact d w' (by rw [<- q'];exact hocd)
theorem store_ok {M:Model}{A:Around}{E:Value->Shared->Prop}{i:Nat}{x:Str}{v:V}{u:Value}{Q:Unit->Shared->Prop}(I:Inv X pins σ H s)(hN:X.N.Nodup)(hi:X.N[i]? = some x)(hx:Loc X.env.scope x)(r:RelV v u)
  (h:∀ s',Inv X pins (σ.set i (some v)) H s'->Q () s')(hf:X.fn x=true\/X.env.scope.names.lookup x=some .local:=by first|exact .inl rfl|exact .inr rfl|assumption):wpAny M A (storeName X.env x u) Q E s:=
 store_ok2 I hN hi hx r (fun s' I' _=>h s' I') hf
end
noncomputable abbrev XK:=Value->Option Addr->Hp->Prop
noncomputable abbrev St:=List (Option V)
noncomputable abbrev VK:=V->Hp->Prop
noncomputable abbrev TE:=St->Hp->VK->Prop
noncomputable abbrev TT:=St->Hp->(Bool->Hp->Prop)->Prop
noncomputable abbrev TA:=St->Hp->(List V->Hp->Prop)->Prop
structure Ends where
 nx:St->Hp->Prop
 rt:VK
 bk:St->Hp->Prop:=fun _ _=>False
 ct:St->Hp->Prop:=fun _ _=>False
noncomputable abbrev TS:=Ends->St->Hp->Prop
noncomputable def EP (X:Cx)(pins:List (Addr×Obj))(σ:St)(Q:VK)(u:Value)(s':Shared):Prop:=∃ v H',Inv X pins σ H' s'/\RelV v u/\Q v H'
noncomputable def TP (X:Cx)(pins:List (Addr×Obj))(σ:St)(Q:Bool->Hp->Prop)(b:Bool)(s':Shared):Prop:=∃ H',Inv X pins σ H' s'/\Q b H'
noncomputable def AP (X:Cx)(pins:List (Addr×Obj))(σ:St)(Q:List V->Hp->Prop)(us:List Value)(s':Shared):Prop:=∃ vs H',Inv X pins σ H' s'/\Vals vs us/\Q vs H'
noncomputable def SP (X:Cx)(pins:List (Addr×Obj))(D:Ends)(f:Flow)(s':Shared):Prop:=
 match f with
 | .next=>∃ σ' H',Inv X pins σ' H' s'/\D.nx σ' H'
 | .brk=>∃ σ' H',Inv X pins σ' H' s'/\D.bk σ' H'
 | .cont=>∃ σ' H',Inv X pins σ' H' s'/\D.ct σ' H'
 | .ret u=>∃ v σ' H',Inv X pins σ' H' s'/\RelV v u/\D.rt v H'
noncomputable def PE (X:Cx)(e:Expr)(t:TE):Prop:=
 ∀ (pins:List (Addr×Obj))(s:Shared)(σ:St)(H:Hp)(Q:VK),Inv X pins σ H s->t σ H Q->wpAny (model X.prog X.w) X.A (eval e X.env) (EP X pins σ Q) X.xe s
noncomputable def PT (X:Cx)(e:Expr)(t:TT):Prop:=
 ∀ (pins:List (Addr×Obj))(s:Shared)(σ:St)(H:Hp)(Q:Bool->Hp->Prop),Inv X pins σ H s->t σ H Q->wpAny (model X.prog X.w) X.A (isTrue e X.env (eval e X.env)) (TP X pins σ Q) X.xe s
noncomputable def PW (X:Cx)(e:Expr)(t:TT):Prop:=
 ∀ (whole:Sem Value)(pins:List (Addr×Obj))(s:Shared)(σ:St)(H:Hp)(Q:Bool->Hp->Prop),Inv X pins σ H s->t σ H Q->wpAny (model X.prog X.w) X.A (isTrue e X.env whole) (TP X pins σ Q) X.xe s
theorem PW.pt {X:Cx}{e:Expr}{t:TT}(h:PW X e t):PT X e t:=h _
noncomputable def PA (X:Cx)(es:List Expr)(t:TA):Prop:=
 ∀ (pos:Pos)(pins:List (Addr×Obj))(s:Shared)(σ:St)(H:Hp)(Q:List V->Hp->Prop),Inv X pins σ H s->t σ H Q->wpAny (model X.prog X.w) X.A (spliced (backTo pos (starEach es X.env))) (AP X pins σ Q) X.xe s
noncomputable def PS (X:Cx)(st:Stmt)(t:TS):Prop:=
 ∀ (pins:List (Addr×Obj))(s:Shared)(σ:St)(H:Hp)(D:Ends),Inv X pins σ H s->t D σ H->wpAny (model X.prog X.w) X.A (exec st X.env) (SP X pins D) X.xe s
noncomputable def PSs (X:Cx)(st:List Stmt)(t:TS):Prop:=
 ∀ (pins:List (Addr×Obj))(s:Shared)(σ:St)(H:Hp)(D:Ends),Inv X pins σ H s->t D σ H->wpAny (model X.prog X.w) X.A (execs st X.env) (SP X pins D) X.xe s
theorem thn {α:Type}{t:Sem α}{Q Q':α->Shared->Prop}{M:Model}{A:Around}{E:Value->Shared->Prop}{s:Shared}(h:wpAny M A t Q E s)(hQ:∀ a s,Q a s->Q' a s):wpAny M A t Q' E s:=wpAny_mono h hQ fun _ _ x=>x
end L2
namespace L2
open PySem PySem.Spec PyProof.Rows
section
variable {X:Cx}
noncomputable def tVar (i:Nat):TE:=fun σ H Q=>∃ v,σ[i]? = some (some v)/\Q v H
noncomputable def tC (v:V):TE:=fun _ H Q=>Q v H
theorem pe_var {i:Nat}{x:Str}{pos:Pos}(hN:X.N[i]? = some x)(hv:Vis X.env.scope x)(hd:(x == ("__debug__":Str))=false:=by decide) (hcd:(x == ("__classdict__":Str))=false:=by decide):PE X (.Name x pos) (tVar i):=by
 intro pins s σ H Q I h
 obtain ⟨v,e,h⟩:=h
 obtain ⟨m,hn,hl⟩:=I.loc
 obtain ⟨u,r,l⟩:=hl i x v hN e hv
 have fin:EP X pins σ Q u s:=⟨v,H,I,r,h⟩
 rcases l with ⟨hk,hm⟩|⟨hk,c,hc,hcell⟩
 ·exact wpAny_Name (wpAny_loadName_local I.ok.kind hk hn hm fin) hd
 ·rcases hk with hk|hk
  ·exact wpAny_Name (wpAny_loadName_cell I.ok.kind hk hc hcell fin) hd
  ·exact wpAny_Name (wpAny_loadName_free I.ok.kind hk hc hcell fin hcd) hd
theorem pe_int {i j pos}:PE X (.Constant (.int i) j pos) (tC (.int i)):=fun _ _ _ H _ I h=>wpAny_Constant_int ⟨.int i,H,I.tok _,⟨_,rfl⟩,h⟩
theorem pe_bl {b j pos}:PE X (.Constant (.bool b) j pos) (tC (.bl b)):=fun _ _ _ H _ I h=>Constant_bool ⟨.bl b,H,I,rfl,h⟩
theorem pe_non {j pos}:PE X (.Constant .none j pos) (tC .non):=fun _ _ _ H _ I h=>Constant_none ⟨.non,H,I,rfl,h⟩
theorem pe_str {x j pos}:PE X (.Constant (.str x) j pos) (tC (.str x)):=fun _ _ _ H _ I h=>Calls.Constant_str ⟨.str x,H,I.tok _,⟨_,rfl⟩,h⟩
noncomputable def Gl (X:Cx)(x:Str):Prop:=X.env.kindOf x=some .globalImplicit
theorem ld_glob {E:Value->Shared->Prop}{pins:List (Addr×Obj)}{s:Shared}{σ:St}{H:Hp}{x:Str}{u:Value}{pos:Pos}{Q:Value->Shared->Prop}(I:Inv X pins σ H s)(hg:Gl X x)(hm:X.mg x=some u)(h:Q u s)
  (hd:(x == ("__debug__":Str))=false:=by decide):wpAny (model X.prog X.w) X.A (eval (.Name x pos) X.env) Q E s:=
 Calls.Name_function_global I.ok.kind hg (Calls.loadGlobal_global (by rw [I.ok.glob];exact I.mod.glob.keeps I.bk) hm h) hd
theorem ld_blt {E:Value->Shared->Prop}{pins:List (Addr×Obj)}{s:Shared}{σ:St}{H:Hp}{x:Str}{u:Value}{pos:Pos}{Q:Value->Shared->Prop}(I:Inv X pins σ H s)(hg:Gl X x)(hm:X.mg x=none)(hv:bootBuiltins x=some u)(h:Q u s)
  (hn:x ≠ "__name__":=by decide) (hd:(x == ("__debug__":Str))=false:=by decide):wpAny (model X.prog X.w) X.A (eval (.Name x pos) X.env) Q E s:=by
 obtain ⟨mb,h1,h2⟩:=I.mod.blt
 exact Calls.Name_function_global I.ok.kind hg (Calls.loadGlobal_builtin (by rw [I.ok.glob];exact I.mod.glob.keeps I.bk) hm (by rw [I.ok.blt];exact h1.keeps I.bk) ((h2 x hn).trans hv) h) hd
theorem pe_glob {x:Str}{v:V}{u:Value}{pos:Pos}(hg:Gl X x)(hm:X.mg x=some u)(r:RelV v u)(hd:(x == ("__debug__":Str))=false:=by decide):PE X (.Name x pos) (tC v):=
 fun _ _ _ H _ I h=>ld_glob I hg hm ⟨v,H,I,r,h⟩ hd
theorem pe_bltn {x:Str}{v:V}{u:Value}{pos:Pos}(hg:Gl X x)(hm:X.mg x=none)(hv:bootBuiltins x=some u)(r:RelV v u)(hn:x ≠ "__name__":=by decide) (hd:(x == ("__debug__":Str))=false:=by decide):PE X (.Name x pos) (tC v):=
 fun _ _ _ H _ I h=>ld_blt I hg hm hv ⟨v,H,I,r,h⟩ hn hd
variable {a b:Expr}{ta tb:TE}{pos:Pos}
variable {tA tB':TT}{rest:List Expr}
noncomputable def tAnd (t u:TT):TT:=fun σ H Q=>t σ H fun c H1=>if c=true then u σ H1 Q else Q false H1
noncomputable def tOr (t u:TT):TT:=fun σ H Q=>t σ H fun c H1=>if c=true then Q true H1 else u σ H1 Q
noncomputable def tNot (t:TT):TT:=fun σ H Q=>t σ H fun c H1=>Q (!c) H1
theorem pw_and1 (ha:PT X a tA):PW X (.BoolOp .And [a] pos) tA:=by
 intro wh pins s σ H Q I h
 refine isTrue_and (thn (ha pins s σ H Q I h) fun c s1 e=>?_)
 cases c with
 | true=>exact isTrue_and_nil e
 | false=>exact e
theorem pw_or1 (ha:PT X a tA):PW X (.BoolOp .Or [a] pos) tA:=by
 intro wh pins s σ H Q I h
 refine isTrue_or (thn (ha pins s σ H Q I h) fun c s1 e=>?_)
 cases c with
 | false=>exact isTrue_or_nil e
 | true=>exact e
theorem pw_and (ha:PT X a tA)(hb:PW X (.BoolOp .And (b::rest) pos) tB'):PW X (.BoolOp .And (a::b::rest) pos) (tAnd tA tB'):=by
 intro wh pins s σ H Q I h
 refine isTrue_and (thn (ha pins s σ H _ I h) fun c s1 ⟨H1,I1,q1⟩=>?_)
 cases c with
 | true=>exact hb wh pins s1 σ H1 Q I1 q1
 | false=>exact ⟨H1,I1,q1⟩
theorem pw_or (ha:PT X a tA)(hb:PW X (.BoolOp .Or (b::rest) pos) tB'):PW X (.BoolOp .Or (a::b::rest) pos) (tOr tA tB'):=by
 intro wh pins s σ H Q I h
 refine isTrue_or (thn (ha pins s σ H _ I h) fun c s1 ⟨H1,I1,q1⟩=>?_)
 cases c with
 | true=>exact ⟨H1,I1,q1⟩
 | false=>exact hb wh pins s1 σ H1 Q I1 q1
theorem pt_not (ha:PT X a tA):PT X (.UnaryOp .Not a pos) (tNot tA):=by
 intro pins s σ H Q I h
 exact isTrue_not (ha pins s σ H (fun c H1=>Q (!c) H1) I h)
noncomputable def tAndV (ta tb:TE):TE:=fun σ H Q=>ta σ H fun x H1=>∃ c,x=.bl c/\if c=true then tb σ H1 Q else Q (.bl false) H1
noncomputable def tOrV (ta tb:TE):TE:=fun σ H Q=>ta σ H fun x H1=>∃ c,x=.bl c/\if c=true then Q (.bl true) H1 else tb σ H1 Q
noncomputable def tNotV (ta:TE):TE:=fun σ H Q=>ta σ H fun x H1=>∃ c,x=.bl c/\Q (.bl (!c)) H1
theorem pe_one {op} {t:TE}(h:PE X a t):PE X (.BoolOp op [a] pos) t:=fun pins s σ H Q I hw=>BoolOp_one (h pins s σ H Q I hw)
theorem pe_and (ha:PE X a ta)(hb:PE X (.BoolOp .And (b::rest) pos) tb):PE X (.BoolOp .And (a::b::rest) pos) (tAndV ta tb):=by
 intro pins s σ H Q I h
 refine BoolOp_and (thn (ha pins s σ H _ I h) fun v s1 ⟨x,H1,I1,r1,q1⟩=>?_)
 obtain ⟨c,rfl,q1⟩:=q1
 cases r1
 refine wpAny_truthy_bool ?_
 cases c with
 | true=>exact hb pins s1 σ H1 Q I1 q1
 | false=>exact ⟨.bl false,H1,I1,rfl,q1⟩
theorem pe_or (ha:PE X a ta)(hb:PE X (.BoolOp .Or (b::rest) pos) tb):PE X (.BoolOp .Or (a::b::rest) pos) (tOrV ta tb):=by
 intro pins s σ H Q I h
 refine BoolOp_or (thn (ha pins s σ H _ I h) fun v s1 ⟨x,H1,I1,r1,q1⟩=>?_)
 obtain ⟨c,rfl,q1⟩:=q1
 cases r1
 refine wpAny_truthy_bool ?_
 cases c with
 | false=>exact hb pins s1 σ H1 Q I1 q1
 | true=>exact ⟨.bl true,H1,I1,rfl,q1⟩
theorem pe_not (ha:PE X a ta):PE X (.UnaryOp .Not a pos) (tNotV ta):=by
 intro pins s σ H Q I h
 refine UnaryOp_ (thn (ha pins s σ H _ I h) fun v s1 ⟨x,H1,I1,r1,q1⟩=>?_)
 obtain ⟨c,rfl,q1⟩:=q1
 cases r1
 exact not_of (wpAny_truthy_bool ⟨.bl (!c),H1,I1,rfl,q1⟩)
noncomputable def tIf (t:TT)(ta tb:TE):TE:=fun σ H Q=>t σ H fun c H1=>if c=true then ta σ H1 Q else tb σ H1 Q
theorem pe_ifExp {c:Expr}(hc:PT X c tA)(ha:PE X a ta)(hb:PE X b tb):PE X (.IfExp c a b pos) (tIf tA ta tb):=by
 intro pins s σ H Q I h
 refine wpAny_IfExp (thn (hc pins s σ H _ I h) fun d s1 ⟨H1,I1,q1⟩=>?_)
 cases d with
 | true=>exact ha pins s1 σ H1 Q I1 q1
 | false=>exact hb pins s1 σ H1 Q I1 q1
end
end L2
namespace L2
open PySem PySem.Spec PyProof.Rows
noncomputable def SqL (K:PySem.W.Frag)(H:Hp)(a:Addr)(xs:List V):Prop:=
 Rd H a (.lst xs) \/
  ∃ (o:Obj)(its:Array Value)(n:Nat),K.lookup a=some o/\o.cls=.type "list"/\o.dict=none/\o.data=.seq its n/\its.size<=sizeLine/\Vals xs its.toList
noncomputable def SqT (K:PySem.W.Frag)(H:Hp)(a:Addr)(xs:List V):Prop:=
 Rd H a (.tup xs) \/
  ∃ (o:Obj)(its:Array Value)(n:Nat),K.lookup a=some o/\o.cls=.type "tuple"/\o.dict=none/\o.data=.seq its n/\its.size<=sizeLine/\Vals xs its.toList
noncomputable def absV:Value->Option V
 | .none=>some .non
 | .bool b=>some (.bl b)
 | .int i _=>some (.int i)
 | .str x _=>some (.str x)
 | .bytes b _=>some (.byt b)
 | .float b _=>some (.flt b)
 | .ref a=>some (.ref a)
 | .type n=>some (.ty n)
 | _=>none
theorem RelV.abs {x:V}{u:Value}(r:RelV x u):absV u=some x:=by
 cases x with
 | non=>cases r;rfl
 | bl _=>cases r;rfl
 | int _=>obtain ⟨t,rfl⟩:=r;rfl
 | str _=>obtain ⟨t,rfl⟩:=r;rfl
 | byt _=>obtain ⟨t,rfl⟩:=r;rfl
 | flt _=>obtain ⟨t,rfl⟩:=r;rfl
 | ref _=>cases r;rfl
 | ty _=>cases r;rfl
theorem RelV.inj {x y:V}{u:Value}(r:RelV x u)(q:RelV y u):x=y:=Option.some.inj (r.abs.symm.trans q.abs)
theorem Vals.inj:∀ {xs ys:List V}{us:List Value},Vals xs us->Vals ys us->xs=ys
 | _,_,_,.nil,.nil=>rfl
 | _,_,_,.cons r t,.cons r' t'=>by rw [r.inj r',Vals.inj t t']
section
variable {X:Cx}{pins:List (Addr×Obj)}{σ:St}{H:Hp}{s:Shared}{a:Addr}{xs ys:List V}
theorem SqL.of {K:PySem.W.Frag}(h:H a=some (.lst xs)):SqL K H a xs:=.inl (.inl h)
theorem SqT.of {K:PySem.W.Frag}(h:H a=some (.tup xs)):SqT K H a xs:=.inl (.inl h)
theorem Inv.list (I:Inv X pins σ H s)(h:SqL X.K H a xs):∃ its:List Value,Vals xs its/\PlainL s.heap a its.toArray/\xs.length<=sizeLine:=by
 rcases h with h|⟨o,its,n,hk,hc,hd,hs,hz,r⟩
 ·obtain ⟨z,its,n,r,e⟩:=h.ok I.hok
  exact ⟨its,r,⟨_,n,e,rfl,rfl,rfl⟩,z⟩
 ·refine ⟨its.toList,r,⟨o,n,I.kIn a o hk,hc,hd,by simpa using hs⟩,?_⟩
  have e:=r.length
  simp only [Array.length_toList] at e
  omega
theorem Inv.tuple (I:Inv X pins σ H s)(h:SqT X.K H a xs):∃ its:List Value,Vals xs its/\IsTup s.heap a its.toArray/\xs.length<=sizeLine:=by
 rcases h with h|⟨o,its,n,hk,hc,hd,hs,hz,r⟩
 ·obtain ⟨z,its,r,p⟩:=h.ok I.hok
  exact ⟨its,r,p.tup,z⟩
 ·refine ⟨its.toList,r,⟨o,I.kIn a o hk,hc,n,by simpa using hs⟩,?_⟩
  have e:=r.length
  simp only [Array.length_toList] at e
  omega
theorem Inv.tupN (I:Inv X pins σ H s)(h:SqT X.K H a xs):∃ its:List Value,Vals xs its/\TupN s.heap a its.toArray:=by
 rcases h with h|⟨o,its,n,hk,hc,hd,hs,hz,r⟩
 ·obtain ⟨z,its,r,p⟩:=h.ok I.hok
  exact ⟨its,r,p⟩
 ·exact ⟨its.toList,r,o,I.kIn a o hk,hc,n,by simpa using hs,hd⟩
theorem Inv.list_inj (I:Inv X pins σ H s)(h:SqL X.K H a xs)(h':SqL X.K H a ys):xs=ys:=by
 obtain ⟨its,r,⟨o,n,e,_,_,d⟩,_⟩:=I.list h
 obtain ⟨its',r',⟨o',n',e',_,_,d'⟩,_⟩:=I.list h'
 rw [e] at e';cases e'
 rw [d] at d'
 injection d' with d1 _
 have:its=its':=by simpa using congrArg Array.toList d1
 subst this
 exact r.inj r'
theorem Inv.tuple_inj (I:Inv X pins σ H s)(h:SqT X.K H a xs)(h':SqT X.K H a ys):xs=ys:=by
 obtain ⟨its,r,⟨o,e,_,n,d⟩,_⟩:=I.tuple h
 obtain ⟨its',r',⟨o',e',_,n',d'⟩,_⟩:=I.tuple h'
 rw [e] at e';cases e'
 rw [d] at d'
 injection d' with d1 _
 have:its=its':=by simpa using congrArg Array.toList d1
 subst this
 exact r.inj r'
end
noncomputable abbrev Cx.wish (X:Cx)(E:Value->Shared->Prop):Cx:={ X with xe:=E }
noncomputable abbrev Cx.nox (X:Cx):Cx:=X.wish fun _ _=>False
theorem Cx.Ok.wish {X:Cx}(ok:X.Ok)(E:Value->Shared->Prop):(X.wish E).Ok:=
 ⟨ok.mod,ok.kind,ok.glob,ok.blt,ok.above,ok.inj,ok.has,ok.cab,ok.hd,ok.frames,ok.stk,ok.exf,ok.bs,ok.bsz,ok.noex,ok.exfs,ok.funs,ok.frf⟩
theorem Cx.Ok.unwish {X:Cx}{E:Value->Shared->Prop}(ok:(X.wish E).Ok):X.Ok:=
 ⟨ok.mod,ok.kind,ok.glob,ok.blt,ok.above,ok.inj,ok.has,ok.cab,ok.hd,ok.frames,ok.stk,ok.exf,ok.bs,ok.bsz,ok.noex,ok.exfs,ok.funs,ok.frf⟩
section
variable {X:Cx}{pins:List (Addr×Obj)}{σ:St}{H:Hp}{s:Shared}{E:Value->Shared->Prop}
theorem Inv.wish (I:Inv X pins σ H s)(E:Value->Shared->Prop):Inv (X.wish E) pins σ H s:=⟨I.ok.wish E,I.os,I.bare,I.base,I.loc,I.cell,I.free,I.freeC,I.pin,I.hok,I.len⟩
theorem Inv.unwish (I:Inv (X.wish E) pins σ H s):Inv X pins σ H s:=⟨I.ok.unwish,I.os,I.bare,I.base,I.loc,I.cell,I.free,I.freeC,I.pin,I.hok,I.len⟩
theorem SP.unwish {D:Ends}{f:Flow}{s':Shared}(h:SP (X.wish E) pins D f s'):SP X pins D f s':=by
 cases f with
 | next=>obtain ⟨σ',H',I,q⟩:=h;exact ⟨σ',H',I.unwish,q⟩
 | brk=>obtain ⟨σ',H',I,q⟩:=h;exact ⟨σ',H',I.unwish,q⟩
 | cont=>obtain ⟨σ',H',I,q⟩:=h;exact ⟨σ',H',I.unwish,q⟩
 | ret u=>obtain ⟨v,σ',H',I,r,q⟩:=h;exact ⟨v,σ',H',I.unwish,r,q⟩
theorem PSs.nox {st:List Stmt}{t:TS}(h:PSs X.nox st t):PSs X st t:=fun pins s σ H D I hw=>
 wpAny_mono (h pins s σ H D (I.wish _) hw) (fun _ _ q=>q.unwish) fun _ _ z=>False.elim z
end
section
variable {X:Cx}{st:Stmt}{rest:List Stmt}{t u:TS}{e:Expr}{te:TE}{pos:Pos}
noncomputable def tNext:TS:=fun D σ H=>D.nx σ H
noncomputable def tSeq (t u:TS):TS:=fun D σ H=>t { D with nx:=u D } σ H
theorem pss_nil:PSs X [] tNext:=fun _ _ σ H _ I h=>wpAny_execs_nil ⟨σ,H,I,h⟩
theorem pss_cons (h1:PS X st t)(h2:PSs X rest u):PSs X (st::rest) (tSeq t u):=by
 intro pins s σ H D I h
 refine wpAny_execs_cons (thn (h1 pins s σ H { D with nx:=u D } I h) fun f s1 q=>?_)
 cases f with
 | next=>
  obtain ⟨σ',H',I',q⟩:=q
  exact h2 pins s1 σ' H' D I' q
 | ret v=>exact q
 | brk=>exact q
 | cont=>exact q
theorem pss_one (h1:PS X st t):PSs X [st] t:=by
 intro pins s σ H D I h
 refine wpAny_execs_cons (thn (h1 pins s σ H D I h) fun f s1 q=>?_)
 cases f with
 | next=>exact wpAny_execs_nil q
 | ret v=>exact q
 | brk=>exact q
 | cont=>exact q
theorem ps_pass:PS X (.Pass pos) tNext:=fun _ _ σ H _ I h=>wpAny_Pass ⟨σ,H,I,h⟩
theorem Inv.quiet {pins:List (Addr×Obj)}{σ:St}{H:Hp}{s:Shared}(I:Inv X pins σ H s):interactive X.env=false:=by simp [interactive,I.ok.kind]
noncomputable def tDrop (te:TE):TS:=fun D σ H=>te σ H fun _ H1=>D.nx σ H1
theorem ps_expr (he:PE X e te)(hs:swapsWith e none pos.line X.env=pure false:=by rfl):PS X (.Expr e pos) (tDrop te):=by
 intro pins s σ H D I h
 exact wpAny_Expr_any (thn (he pins s σ H _ I h) fun v s1 ⟨x,H1,I1,r1,q1⟩=>⟨σ,H1,I1,q1⟩) I.quiet hs
noncomputable def tRet (te:TE):TS:=fun D σ H=>te σ H D.rt
theorem ps_ret (he:PE X e te):PS X (.Return (some e) pos) (tRet te):=by
 intro pins s σ H D I h
 exact wpAny_Return_some (thn (he pins s σ H _ I h) fun v s1 ⟨x,H1,I1,r1,q1⟩=>⟨x,σ,H1,I1,r1,q1⟩)
noncomputable def tRetN:TS:=fun D _ H=>D.rt .non H
theorem ps_retN:PS X (.Return none pos) tRetN:=fun _ _ σ H _ I h=>wpAny_Return_none ⟨.non,σ,H,I,rfl,h⟩
noncomputable def tIfS (c:TT)(t u:TS):TS:=fun D σ H=>c σ H fun b H1=>if b=true then t D σ H1 else u D σ H1
theorem ps_if {c:Expr}{a b:List Stmt}{tc:TT}(hc:PT X c tc)(ha:PSs X a t)(hb:PSs X b u):PS X (.If c a b pos) (tIfS tc t u):=by
 intro pins s σ H D I h
 refine wpAny_If (thn (hc pins s σ H _ I h) fun d s1 ⟨H1,I1,q1⟩=>?_)
 cases d with
 | true=>exact ha pins s1 σ H1 D I1 q1
 | false=>exact hb pins s1 σ H1 D I1 q1
end
noncomputable abbrev TG:=V->St->Hp->(St->Hp->Prop)->Prop
noncomputable abbrev TGs:=List V->St->Hp->(St->Hp->Prop)->Prop
noncomputable def PG (X:Cx)(target:Expr)(t:TG):Prop:=
 ∀ (pins:List (Addr×Obj))(s:Shared)(σ:St)(H:Hp)(v:V)(u:Value)(Q:St->Hp->Prop),Inv X pins σ H s->RelV v u->t v σ H Q->
  wpAny (model X.prog X.w) X.A (assign target X.env u) (fun _ s'=>∃ σ' H',Inv X pins σ' H' s'/\Q σ' H') X.xe s
noncomputable def PGs (X:Cx)(ts:List Expr)(t:TGs):Prop:=
 ∀ (pins:List (Addr×Obj))(s:Shared)(σ:St)(H:Hp)(vs:List V)(us:List Value)(Q:St->Hp->Prop),Inv X pins σ H s->Vals vs us->t vs σ H Q->
  wpAny (model X.prog X.w) X.A (assignInOrder ((assignEach ts X.env).map (·.2)) us) (fun _ s'=>∃ σ' H',Inv X pins σ' H' s'/\Q σ' H') X.xe s
noncomputable abbrev TSet:=V->V->V->Hp->(Hp->Prop)->Prop
noncomputable def PSet (X:Cx)(t:TSet):Prop:=
 ∀ (pins:List (Addr×Obj))(s:Shared)(σ:St)(H:Hp)(o i v:V)(ov iv u:Value)(Q:Hp->Prop),Inv X pins σ H s->RelV o ov->RelV i iv->RelV v u->t o i v H Q->
  wpAny (model X.prog X.w) X.A (setItem ov iv u) (fun _ s'=>∃ H',Inv X pins σ H' s'/\Q H') X.xe s
section
variable {X:Cx}{pos:Pos}
noncomputable def gName (i:Nat):TG:=fun v σ H Q=>Q (σ.set i (some v)) H
theorem pg_name {i:Nat}{x:Str}(hN:X.N.Nodup)(hi:X.N[i]? = some x)(hx:Loc X.env.scope x)(hf:X.fn x=true\/X.env.scope.names.lookup x=some .local:=by first|exact .inl rfl|exact .inr rfl|assumption):PG X (.Name x pos) (gName i):=by
 intro pins s σ H v u Q I r h
 exact wpAny_assign_Name (store_ok I hN hi hx r (fun s' I'=>⟨_,H,I',h⟩) hf)
noncomputable def gNil:TGs:=fun vs σ H Q=>vs=[]/\Q σ H
noncomputable def gCons (t:TG)(u:TGs):TGs:=fun vs σ H Q=>∃ v r,vs=v::r/\t v σ H fun σ' H'=>u r σ' H' Q
theorem pgs_nil:PGs X [] gNil:=by
 intro pins s σ H vs us Q I r h
 obtain ⟨e,h⟩:=h
 subst e
 cases r
 exact assignInOrder_nil ⟨σ,H,I,h⟩
theorem pgs_cons {e:Expr}{es:List Expr}{t:TG}{u:TGs}(h1:PG X e t)(h2:PGs X es u)
  (hs:(assignEach (e::es) X.env).map (·.2)=assign e X.env::(assignEach es X.env).map (·.2):=by rfl):PGs X (e::es) (gCons t u):=by
 intro pins s σ H vs us Q I r h
 obtain ⟨v,vr,e1,h⟩:=h
 subst e1
 cases r with
 | cons r rr=>
  rw [hs]
  refine assignInOrder_cons (thn (h1 pins s σ H _ _ _ I r h) fun _ s1 ⟨σ1,H1,I1,q1⟩=>?_)
  exact h2 pins s1 σ1 H1 _ _ Q I1 rr q1
noncomputable def tAsg (te:TE)(g:TG):TS:=fun D σ H=>te σ H fun x H1=>g x σ H1 D.nx
theorem ps_asg {tg e:Expr}{te:TE}{g:TG}(he:PE X e te)(hg:PG X tg g)(hs:swapsWithSole [tg] e pos.line X.env=pure false:=by rfl)(hw:swappedStores [tg] e X.env=pure none:=by rfl)
  (h1:(assignEach [tg] X.env).map (·.2)=[assign tg X.env]:=by rfl):PS X (.Assign [tg] e pos) (tAsg te g):=by
 intro pins s σ H D I h
 refine wpAny_Assign_stores (thn (he pins s σ H _ I h) fun v s1 ⟨x,H1,I1,r1,q1⟩=>?_) hs hw
 rw [h1]
 exact thn (hg pins s1 σ H1 x v _ I1 r1 q1) fun _ s2 q=>q
theorem ps_set {i:Nat}{x:Str}{e:Expr}{te:TE}{pos':Pos}(hN:X.N.Nodup)(hi:X.N[i]? = some x)(hx:Loc X.env.scope x)(he:PE X e te)(hs:swapsWith e (some (.Name x pos')) pos.line X.env=pure false:=by rfl)(hf:X.fn x=true\/X.env.scope.names.lookup x=some .local:=by first|exact .inl rfl|exact .inr rfl|assumption) :
  PS X (.Assign [.Name x pos'] e pos) (tAsg te (gName i)):=by
 intro pins s σ H D I h
 refine wpAny_Assign_Name (thn (he pins s σ H _ I h) fun v s1 ⟨y,H1,I1,r1,q1⟩=>?_) hs
 exact store_ok I1 hN hi hx r1 (fun s2 I2=>⟨_,H1,I2,q1⟩) hf
end
section
variable {X:Cx}{pos:Pos}
noncomputable def tWhile (c:TT)(tb:TS):TS:=fun D σ H=>∃ W:Nat->St->Hp->Prop,(∃ m,W m σ H)/\∀ m σ H,W m σ H->
 c σ H fun b H1=>if b=true then ∃ N:St->Hp->Prop,(∀ σ' H',N σ' H'->∃ m',m'<m/\W m' σ' H')/\tb { D with nx:=N,ct:=N,bk:=D.nx } σ H1 else D.nx σ H1
theorem ps_while {c:Expr}{body:List Stmt}{tc:TT}{tb:TS}(hp:PassesOwn (model X.prog X.w) X.A X.env X.xe)(hc:PT X c tc)(hb:PSs X body tb):PS X (.While c body [] pos) (tWhile tc tb):=by
 intro pins s σ H D I h
 obtain ⟨W,⟨m0,w0⟩,turn⟩:=h
 refine wpAny_While (codeAny_whileLoop (fun n s'=>∃ σ' H',Inv X pins σ' H' s'/\W n σ' H') ?_ m0 ⟨σ,H,I,w0⟩)
 rintro n s1 ⟨σ1,H1,I1,w1⟩
 refine wpAny_passesOwn hp (thn (hc pins s1 σ1 H1 _ I1 (turn n σ1 H1 w1)) fun b s2 ⟨H2,I2,q2⟩=>?_)
 cases b with
 | true=>
  obtain ⟨N,hN,q2⟩:=q2
  rw [if_pos rfl]
  refine wpAny_passesOwn hp (thn (hb pins s2 σ1 H2 _ I2 q2) fun f s3 q3=>?_)
  cases f with
  | next=>
   obtain ⟨σ3,H3,I3,n3⟩:=q3
   obtain ⟨m',hm,w3⟩:=hN σ3 H3 n3
   exact ⟨m',hm,σ3,H3,I3,w3⟩
  | cont=>
   obtain ⟨σ3,H3,I3,n3⟩:=q3
   obtain ⟨m',hm,w3⟩:=hN σ3 H3 n3
   exact ⟨m',hm,σ3,H3,I3,w3⟩
  | brk=>exact q3
  | ret v=>exact q3
 | false=>
  rw [if_neg Bool.false_ne_true]
  exact wpAny_execs_nil ⟨σ1,H2,I2,q2⟩
end
structure It where
 go:Nat->Hp->Prop
 yld:Nat->Hp->V->Hp->Prop
 stop:Nat->Hp->Prop
noncomputable def FpOk (X:Cx)(pins:List (Addr×Obj))(H:Hp)(b:Addr):Prop:=
 H b=none/\b≠X.env.locals/\b∉X.fs/\(b∈X.ex\/X.s₀.heap.objs.size<=b)/\(∀ x c,X.env.cells.lookup x=some c->c≠b)/\∀ p∈X.pn++pins,p.1≠b
theorem Inv.fpOk {X:Cx}{pins:List (Addr×Obj)}{σ:St}{H H':Hp}{s:Shared}{b:Addr}(I:Inv X pins σ H s)(hb:s.heap.objs.size<=b)(hn:H' b=none):FpOk X pins H' b:=by
 refine ⟨hn,Nat.ne_of_gt (Nat.lt_of_lt_of_le I.lt hb),I.nofs hb,.inr (Nat.le_trans I.sz hb),fun x c e z=>?_,fun p hp z=>?_⟩
 ·obtain ⟨v,q⟩:=I.cell x c e
  exact absurd (Nat.lt_of_lt_of_le q.lt (by rw [z];exact hb)) (Nat.lt_irrefl _)
 ·exact absurd (Nat.lt_of_lt_of_le (Heap.lt_size (I.pin p hp).1) (by rw [z];exact hb)) (Nat.lt_irrefl _)
structure Turn (P:Program)(w:World)(K:PySem.W.Frag)(tg:Expr)(J:It)(fp:List Addr)(it:Addr)(tn:Nat->Heap->Prop):Prop where
 mem:it∈fp
 obj:∀ i h,tn i h->∀ b∈fp,∃ o,h.get? b=some o/\∀ v,o.data≠.cell v
 keep:∀ i h h',tn i h->(∀ b∈fp,∀ o,h.get? b=some o->h'.get? b=some o)->tn i h'
 item:∀ (X:Cx),X.prog=P->X.w=w->X.K=K->X.calm=true->∀ (i:Nat)(pins:List (Addr×Obj))(s:Shared)(σ:St)(H:Hp)(E:Value->Shared->Prop),Inv X pins σ H s->(∀ b∈fp,FpOk X pins H b)->tn i s.heap->J.go i H->
  wpAny (model P w) X.A (pyNext (.ref it)) (fun r s1=>∃ u,r=some u /\
   wpAny (model P w) X.A (letOwnedTupleGo tg (.ref it) u) (fun _ s2=>∃ x H',Inv X pins σ H' s2/\RelV x u/\J.yld i H x H'/\tn (i+1) s2.heap/\∀ b∈fp,H' b=none) E s1) E s
 done:∀ (X:Cx),X.prog=P->X.w=w->X.K=K->X.calm=true->∀ (i:Nat)(pins:List (Addr×Obj))(s:Shared)(σ:St)(H:Hp)(E:Value->Shared->Prop),Inv X pins σ H s->(∀ b∈fp,FpOk X pins H b)->tn i s.heap->J.stop i H->
  wpAny (model P w) X.A (pyNext (.ref it)) (fun r s1=>r=none/\Inv X pins σ H s1) E s
 self:∀ (A:Around)(i:Nat)(s:Shared)(Q:Value->Shared->Prop)(E:Value->Shared->Prop),tn i s.heap->Q (.ref it) s->wpAny (model P w) A (pyIter (.ref it)) Q E s
noncomputable abbrev TI:=St->Hp->(It->Hp->Prop)->Prop
noncomputable def PIE (X:Cx)(pins:List (Addr×Obj))(σ:St)(tg:Expr)(R:It->Hp->Prop)(itv:Value)(s2:Shared):Prop:=
 ∃ (it:Addr)(fp:List Addr)(tn:Nat->Heap->Prop)(J:It)(H':Hp),itv=.ref it/\Inv X pins σ H' s2/\Turn X.prog X.w X.K tg J fp it tn/\tn 0 s2.heap/\(∀ b∈fp,FpOk X pins H' b)/\R J H'
noncomputable def PI (X:Cx)(tg iter:Expr)(wi:TI):Prop:=
 ∀ (pins:List (Addr×Obj))(s:Shared)(σ:St)(H:Hp)(R:It->Hp->Prop),Inv X pins σ H s->wi σ H R->
  wpAny (model X.prog X.w) X.A (eval iter X.env) (fun v s1=>wpAny (model X.prog X.w) X.A (pyIter v) (PIE X pins σ tg R) X.xe s1) X.xe s
theorem go_of {M:Model}{A:Around}{E:Value->Shared->Prop}{s:Shared}{tg:Expr}{it:Addr}{u:Value}{o:Obj}{n:String}{vs:Array Value}{Q:Unit->Shared->Prop}(ho:s.heap.get? it=some o)(hc:o.cls=.type n)(hd:o.data=.fields vs)
  (hn:["enumerate","zip","dict_itemiterator","dict_reverseitemiterator","odict_iterator","itertools.zip_longest","itertools.pairwise"].contains n=false) (hQ:Q () s):wpAny M A (letOwnedTupleGo tg (.ref it) u) Q E s:=by
 unfold letOwnedTupleGo
 cases tg<;>first
  | exact wpAny_pure hQ
  | (cases u<;>first
    | exact wpAny_pure hQ
    | (refine wpAny_bind (wpAny_load ho ?_)
       rw [hc,hd]
       show wpAny M A (if (["enumerate","zip","dict_itemiterator","dict_reverseitemiterator","odict_iterator","itertools.zip_longest","itertools.pairwise"].contains n&&vs[0]? == some (rawInt _))=true then _ else _) Q E s
       rw [if_neg (by intro h;rw [hn,Bool.false_and] at h;cases h)]
       exact wpAny_pure hQ))
noncomputable def Itl (K:PySem.W.Frag)(a:Addr):It:=
 ⟨fun i H=>∃ xs x,SqL K H a xs/\xs[i]? = some x,fun i H x H'=>H'=H/\∀ xs,SqL K H a xs->xs[i]? = some x,fun i H=>∃ xs,SqL K H a xs/\xs.length<=i⟩
noncomputable def Itt (K:PySem.W.Frag)(a:Addr):It:=
 ⟨fun i H=>∃ xs x,SqT K H a xs/\xs[i]? = some x,fun i H x H'=>H'=H/\∀ xs,SqT K H a xs->xs[i]? = some x,fun i H=>∃ xs,SqT K H a xs/\xs.length<=i⟩
noncomputable def Itr (lo:Int)(n:Nat):It:=⟨fun i _=>i<n,fun i H x H'=>H'=H/\x=.int (lo+i),fun i _=>n<=i⟩
theorem turn_list {P:Program}{w:World}{K:PySem.W.Frag}{tg:Expr}(a it:Addr):Turn P w K tg (Itl K a) [it] it (fun i h=>h.IsListIter it a i) where
 mem:=by simp
 obj:=fun i h st b hb=>by
  have e:b=it:=by simpa using hb
  subst e
  obtain ⟨o,e,c,d⟩:=st
  exact ⟨o,e,fun v z=>by rw [d] at z;cases z⟩
 keep:=fun i h h' st k=>st.at fun o e=>k it (by simp) o e
 item:=by
  intro X hP hw hK hc i pins s σ H E I hf st hg
  subst hP hw hK
  obtain ⟨xs,x,hq,hx⟩:=hg
  obtain ⟨its,rv,p,hz⟩:=I.list hq
  obtain ⟨u,hu,ru⟩:=rv.get hx
  obtain ⟨f0,f1,f2,f3,f4,f5⟩:=hf it (by simp)
  refine wpAny_pyNext_list_item st p.isList (x:=u) (by simpa using hu) fun h' st' sb=>?_
  have I1:Inv X pins σ H { s with heap:=h' }:=I.turned (t':=s.toks) (fun b o hb e=>(sb.2 b hb).trans e) f0 f1 f3 f4 f5
  obtain ⟨o,e,c,d⟩:=id st'
  exact ⟨u,rfl,go_of (s:={ s with heap:=h' }) e c d (by decide) ⟨x,H,I1,ru,⟨rfl,fun ys hy=>by rw [I.list_inj hy hq];exact hx⟩,st',fun b hb=>(hf b hb).1⟩⟩
 done:=by
  intro X hP hw hK hc i pins s σ H E I hf st hg
  subst hP hw hK
  obtain ⟨xs,hq,hx⟩:=hg
  obtain ⟨its,rv,p,hz⟩:=I.list hq
  obtain ⟨f0,f1,f2,f3,f4,f5⟩:=hf it (by simp)
  have hl:=rv.length
  exact wpAny_pyNext_list_end (I.ok.hd hc) st p.isList (by simp;omega) fun h' eb=>⟨rfl,I.turned (t':=s.toks) (fun b o hb e=>eb b o hb e) f0 f1 f3 f4 f5⟩
 self:=fun _ _ _ _ _ st h=>wpAny_pyIter_listiter st h
theorem turn_tuple {P:Program}{w:World}{K:PySem.W.Frag}{tg:Expr}(a it:Addr):Turn P w K tg (Itt K a) [it] it (fun i h=>h.IsTupleIter it a i) where
 mem:=by simp
 obj:=fun i h st b hb=>by
  have e:b=it:=by simpa using hb
  subst e
  obtain ⟨o,e,c,d⟩:=st
  exact ⟨o,e,fun v z=>by rw [d] at z;cases z⟩
 keep:=fun i h h' st k=>st.at fun o e=>k it (by simp) o e
 item:=by
  intro X hP hw hK hc i pins s σ H E I hf st hg
  subst hP hw hK
  obtain ⟨xs,x,hq,hx⟩:=hg
  obtain ⟨its,rv,p,hz⟩:=I.tuple hq
  obtain ⟨u,hu,ru⟩:=rv.get hx
  obtain ⟨f0,f1,f2,f3,f4,f5⟩:=hf it (by simp)
  refine wpAny_pyNext_tuple_item st (show s.heap.IsTuple a its.toArray from p) (x:=u) (by simpa using hu) fun h' st' sb=>?_
  have I1:Inv X pins σ H { s with heap:=h' }:=I.turned (t':=s.toks) (fun b o hb e=>(sb.2 b hb).trans e) f0 f1 f3 f4 f5
  obtain ⟨o,e,c,d⟩:=id st'
  exact ⟨u,rfl,go_of (s:={ s with heap:=h' }) e c d (by decide) ⟨x,H,I1,ru,⟨rfl,fun ys hy=>by rw [I.tuple_inj hy hq];exact hx⟩,st',fun b hb=>(hf b hb).1⟩⟩
 done:=by
  intro X hP hw hK hc i pins s σ H E I hf st hg
  subst hP hw hK
  obtain ⟨xs,hq,hx⟩:=hg
  obtain ⟨its,rv,p,hz⟩:=I.tuple hq
  obtain ⟨f0,f1,f2,f3,f4,f5⟩:=hf it (by simp)
  have hl:=rv.length
  exact wpAny_pyNext_tuple_end (I.ok.hd hc) st (show s.heap.IsTuple a its.toArray from p) (by simp;omega) fun h' eb=>⟨rfl,I.turned (t':=s.toks) (fun b o hb e=>eb b o hb e) f0 f1 f3 f4 f5⟩
 self:=fun _ _ _ _ _ st h=>wpAny_pyIter_tupleiter st h
theorem turn_range {P:Program}{w:World}{K:PySem.W.Frag}{tg:Expr}(it:Addr)(lo:Int)(n:Nat):Turn P w K tg (Itr lo n) [it] it (fun i h=>IsRangeIter h it (lo+(i:Nat) * 1) ((n:Int) - (i:Nat)) 1) where
 mem:=by simp
 obj:=fun i h st b hb=>by
  have e:b=it:=by simpa using hb
  subst e
  exact ⟨_,st,fun v z=>by
   have z':Data.fields _=Data.cell v:=z
   cases z'⟩
 keep:=fun i h h' st k=>k it (by simp) _ st
 item:=by
  intro X hP hw hK hc i pins s σ H E I hf st hg
  subst hP hw hK
  obtain ⟨f0,f1,f2,f3,f4,f5⟩:=hf it (by simp)
  have W:=Walks.range (prog:=X.prog) (w:=X.w) (I.ok.hd hc) it lo 1 n
  refine W.item i s _ _ hg st fun v h' tk hv st' kk=>?_
  obtain ⟨t,rfl⟩:=hv
  have I1:Inv X pins σ H { s with heap:=h',toks:=tk }:=I.turned (fun b o hb e=>kk b o (by simpa using hb) e) f0 f1 f3 f4 f5
  refine ⟨_,rfl,go_of (s:={ s with heap:=h',toks:=tk }) (n:="range_iterator") st' rfl rfl (by decide) ⟨.int (lo+i),H,I1,⟨t,?_⟩,⟨rfl,rfl⟩,st',fun b hb=>(hf b hb).1⟩⟩
  rw [Int.mul_one]
 done:=by
  intro X hP hw hK hc i pins s σ H E I hf st hg
  subst hP hw hK
  obtain ⟨f0,f1,f2,f3,f4,f5⟩:=hf it (by simp)
  exact wpAny_pyNext_range_end (I.ok.hd hc) st (by have:n<=i:=hg;omega) fun h' eb=>⟨rfl,I.turned (t':=s.toks) (fun b o hb e=>eb b o hb e) f0 f1 f3 f4 f5⟩
 self:=fun _ _ _ _ _ st h=>wpAny_pyIter_rangeiter st h
end L2
namespace L2
open PySem PySem.Spec PyProof.Rows
section
variable {X:Cx}{tg:Expr}
theorem range_it {pins:List (Addr×Obj)}{σ:St}{H:Hp}{s:Shared}{R:It->Hp->Prop}{E:Value->Shared->Prop}{lo hi:Int}{t u v:Tok}{tk:Nat}(I:Inv X pins σ H s)(h1:-(2 ^ 62)<=lo)(h2:lo<2 ^ 62)(h3:-(2 ^ 62)<=hi)(h4:hi<2 ^ 62)
  (q:R (Itr lo (hi - lo).toNat) H):wpAny (model X.prog X.w) X.A (pyIter (.ref s.heap.objs.size)) (PIE X pins σ tg R) E { s with heap:=s.heap.push { cls:=.type "range",data:=.fields #[.int lo t,.int hi u,.int 1 v] },toks:=tk }:=by
 refine wpAny_pyIter_range (IsRange.new ..) (small_one h1 h2 h3 h4) ?_
 have I1:Inv X pins σ H { s with heap:=s.heap.push { cls:=.type "range",data:=.fields #[.int lo t,.int hi u,.int 1 v] },toks:=tk }:=I.kept fun b o e=>Heap.get?_push_of_some _ e
 refine ⟨(s.heap.push { cls:=.type "range",data:=.fields #[.int lo t,.int hi u,.int 1 v] }).objs.size,[(s.heap.push { cls:=.type "range",data:=.fields #[.int lo t,.int hi u,.int 1 v] }).objs.size],_,_,H,rfl,
  I1.kept (t':=tk) fun b o e=>Heap.get?_push_of_some _ e,turn_range _ lo (hi - lo).toNat,?_,fun b hb=>?_,q⟩
 ·have e1:lo+((0:Nat):Int) * 1=lo:=by simp
  have e2:(((hi - lo).toNat:Nat):Int) - ((0:Nat):Int)=Builtin.Range.rangeSize lo hi 1:=by rw [rangeSize_one];split<;>omega
  show IsRangeIter _ _ (lo+((0:Nat):Int) * 1) ((((hi - lo).toNat:Nat):Int) - ((0:Nat):Int)) 1
  rw [e1,e2]
  exact Heap.get?_push_size _ rfl
 ·have e:b=(s.heap.push { cls:=.type "range",data:=.fields #[.int lo t,.int hi u,.int 1 v] }).objs.size:=by simpa using hb
  subst e
  exact I1.fpOk (Nat.le_refl _) (I1.hok.fresh (Nat.le_refl _))
noncomputable def iRng1 (ta:TA):TI:=fun σ H R=>ta σ H fun vs H1=>∃ j:Int,vs=[.int j]/\-(2 ^ 62)<=j/\j<2 ^ 62/\R (Itr 0 j.toNat) H1
noncomputable def iRng2 (ta:TA):TI:=fun σ H R=>ta σ H fun vs H1=>∃ i j:Int,vs=[.int i,.int j]/\(-(2 ^ 62)<=i/\i<2 ^ 62/\-(2 ^ 62)<=j/\j<2 ^ 62)/\R (Itr i (j - i).toNat) H1
theorem pi_range1 {a:Expr}{ta:TA}{p pos:Pos}(hg:Gl X "range") (hm:X.mg "range" = none) (ha:PA X [a] ta)(hs:starEach [a] X.env=[(false,eval a X.env)]:=by rfl):PI X tg (.Call (.Name "range" p) [a] [] pos) (iRng1 ta):=by
 intro pins s σ H R I h
 refine Call_ (ld_blt I hg hm boot_range (PyProof.Rows.callWith_type1 (thn (ha pos pins s σ H _ I h) fun us s1 ⟨vs,H1,I1,r1,q1⟩=>?_) hs rfl))
 obtain ⟨j,e,q1,q2,q⟩:=q1
 subst e
 cases r1 with
 | cons r rr=>
  cases rr
  obtain ⟨t,rfl⟩:=r
  exact call_range_1 (range_it I1 (by omega) (by omega) q1 q2 (by simpa using q))
theorem pi_range2 {a b:Expr}{ta:TA}{p pos:Pos}(hg:Gl X "range") (hm:X.mg "range" = none) (ha:PA X [a,b] ta)(hs:starEach [a,b] X.env=[(false,eval a X.env),(false,eval b X.env)]:=by rfl)(hs2:starEach [b] X.env=[(false,eval b X.env)]:=by rfl) :
  PI X tg (.Call (.Name "range" p) [a,b] [] pos) (iRng2 ta):=by
 intro pins s σ H R I h
 refine Call_ (ld_blt I hg hm boot_range (PyProof.Rows.callWith_type1 (thn (ha pos pins s σ H _ I h) fun us s1 ⟨vs,H1,I1,r1,q1⟩=>?_) (by rw [hs,hs2]) (by rw [hs2];rfl)))
 obtain ⟨i,j,e,⟨q1,q2,q3,q4⟩,q⟩:=q1
 subst e
 cases r1 with
 | cons r rr=>
  cases rr with
  | cons r' rr=>
   cases rr
   obtain ⟨t,rfl⟩:=r
   obtain ⟨t',rfl⟩:=r'
   exact call_range_2 (range_it I1 q1 q2 q3 q4 q)
noncomputable def tFor (wi:TI)(g:TG)(tb:TS):TS:=fun D σ H=>wi σ H fun J H1=>∃ W:Nat->Nat->St->Hp->Prop,(∃ m,W 0 m σ H1)/\∀ i m σ H,W i m σ H->
 (J.stop i H/\D.nx σ H)\/(J.go i H/\∃ N:St->Hp->Prop,(∀ σ' H',N σ' H'->∃ m',m'<m/\W (i+1) m' σ' H')/\∀ x H',J.yld i H x H'->g x σ H' fun σ2 H2=>tb { D with nx:=N,ct:=N,bk:=D.nx } σ2 H2)
noncomputable def pinsAt (fp:List Addr)(h:Heap):List (Addr×Obj):=fp.filterMap fun b=>(h.get? b).map fun o=>(b,o)
theorem mem_pinsAt {fp:List Addr}{h:Heap}{b:Addr}{o:Obj}(hb:b∈fp)(e:h.get? b=some o):(b,o)∈pinsAt fp h:=List.mem_filterMap.mpr ⟨b,hb,by rw [e];rfl⟩
theorem of_pinsAt {fp:List Addr}{h:Heap}{p:Addr×Obj}(hp:p∈pinsAt fp h):p.1∈fp/\h.get? p.1=some p.2:=by
 obtain ⟨b,hb,e⟩:=List.mem_filterMap.mp hp
 cases q:h.get? b with
 | none=>rw [q] at e;cases e
 | some o=>
  rw [q] at e
  have e':(b,o)=p:=Option.some.inj e
  subst e'
  exact ⟨hb,q⟩
theorem Inv.pinned {pins:List (Addr×Obj)}{σ:St}{H:Hp}{s:Shared}{fp:List Addr}(I:Inv X pins σ H s)(hf:∀ b∈fp,FpOk X pins H b)(ho:∀ b∈fp,∃ o,s.heap.get? b=some o/\∀ v,o.data≠.cell v):Inv X (pins++pinsAt fp s.heap) σ H s:=
 I.pins_of fun p hp=>(List.mem_append.mp hp).elim (fun z=>I.pin p (List.mem_append_right _ z)) fun z=>by
  obtain ⟨hb,e⟩:=of_pinsAt z
  obtain ⟨f0,f1,f2,_⟩:=hf p.1 hb
  obtain ⟨o,e',d⟩:=ho p.1 hb
  rw [e] at e';cases e'
  exact ⟨e,f0,f1,f2,d⟩
theorem Inv.unpinned {pins pl:List (Addr×Obj)}{σ:St}{H:Hp}{s:Shared}(I:Inv X (pins++pl) σ H s):Inv X pins σ H s:=I.pins_of fun p hp=>I.pin p (List.mem_append_right _ (List.mem_append_left _ hp))
theorem ps_for {iter:Expr}{body:List Stmt}{wi:TI}{g:TG}{tb:TS}{pos:Pos}(hp:PassesOwn (model X.prog X.w) X.A X.env X.xe)(hc:X.calm=true)(hi:PI X tg iter wi)(hg:PG X tg g)(hb:PSs X body tb)
  (hs:∀ x,foldedSetIterable iter X.env x=pure x:=by intro _;rfl):PS X (.For tg iter body [] pos) (tFor wi g tb):=by
 intro pins s σ H D I h
 refine wpAny_For (thn (hi pins s σ H _ I h) fun v s1 h1=>thn h1 fun itv s2 h2=>?_) hs
 obtain ⟨it,fp,tn,J,H2,e,I2,T,st2,f2,W,⟨m0,w0⟩,turn⟩:=h2
 subst e
  -- what stays true of the iterator's objects through the loop
 have stat:∀ {H':Hp},(∀ b∈fp,H' b=none)->∀ b∈fp,FpOk X pins H' b:=fun hn b hb=>⟨hn b hb,(f2 b hb).2⟩
 refine codeAny_forLoop_any (fun n s'=>∃ i σ' H',Inv X pins σ' H' s'/\tn i s'.heap/\(∀ b∈fp,H' b=none)/\W i n σ' H') ?_ m0 ⟨0,σ,H2,I2,st2,fun b hb=>(f2 b hb).1,w0⟩
 rintro n s3 ⟨i,σ3,H3,I3,st3,fr3,w3⟩
 rcases turn i n σ3 H3 w3 with ⟨stop,qn⟩|⟨go,N,hN,step⟩
 ·refine wpAny_passesOwn hp (thn (T.done X rfl rfl rfl hc i pins s3 σ3 H3 X.xe I3 (stat fr3) st3 stop) fun r s4 ⟨hr,I4⟩=>?_)
  subst hr
  exact wpAny_execs_nil ⟨σ3,H3,I4,qn⟩
 ·refine wpAny_passesOwn hp (thn (T.item X rfl rfl rfl hc i pins s3 σ3 H3 X.xe I3 (stat fr3) st3 go) fun r s4 ⟨u,hr,h4⟩=>?_)
  subst hr
  refine wpAny_passesOwn hp (thn h4 fun _ s5 ⟨x,H5,I5,r5,y5,st5,fr5⟩=>?_)
  have I5':=I5.pinned (stat fr5) (T.obj _ _ st5)
  refine wpAny_passesOwn hp (thn (hg _ s5 σ3 H5 x u _ I5' r5 (step x H5 y5)) fun _ s6 ⟨σ6,H6,I6,q6⟩=>?_)
  refine wpAny_passesOwn hp (thn (hb _ s6 σ6 H6 _ I6 q6) fun f s7 q7=>?_)
  have again:∀ {σ7:St}{H7:Hp},Inv X (pins++pinsAt fp s5.heap) σ7 H7 s7->N σ7 H7->∃ m,m<n/\∃ i σ' H',Inv X pins σ' H' s7/\tn i s7.heap/\(∀ b∈fp,H' b=none)/\W i m σ' H':=fun {σ7 H7} I7 n7=>by
   obtain ⟨m',hm,w7⟩:=hN σ7 H7 n7
   refine ⟨m',hm,i+1,σ7,H7,I7.unpinned,T.keep _ _ _ st5 fun b hb o e=>(I7.pin (b,o) (List.mem_append_right _ (List.mem_append_right _ (mem_pinsAt hb e)))).1,fun b hb=>?_,w7⟩
   obtain ⟨o,e,d⟩:=T.obj _ _ st5 b hb
   exact (I7.pin (b,o) (List.mem_append_right _ (List.mem_append_right _ (mem_pinsAt hb e)))).2.1
  cases f with
  | next=>obtain ⟨σ7,H7,I7,n7⟩:=q7;exact again I7 n7
  | cont=>obtain ⟨σ7,H7,I7,n7⟩:=q7;exact again I7 n7
  | brk=>obtain ⟨σ7,H7,I7,q7⟩:=q7;exact ⟨σ7,H7,I7.unpinned,q7⟩
  | ret v=>obtain ⟨x7,σ7,H7,I7,r7,q7⟩:=q7;exact ⟨x7,σ7,H7,I7.unpinned,r7,q7⟩
end
end L2
namespace L2
open PySem PySem.Spec PyProof.Rows
noncomputable abbrev R2:=V->V->Hp->VK->Prop
noncomputable def OpR (X:Cx)(f:Value->Value->Sem Value)(r:R2):Prop:=
 ∀ (pins:List (Addr×Obj))(s:Shared)(σ:St)(H:Hp)(x y:V)(v u:Value)(Q:VK),Inv X pins σ H s->RelV x v->RelV y u->r x y H Q->
  wpAny (model X.prog X.w) X.A (f v u) (EP X pins σ Q) X.xe s
noncomputable def UnR (X:Cx)(f:Value->Sem Value)(r:V->Hp->VK->Prop):Prop:=
 ∀ (pins:List (Addr×Obj))(s:Shared)(σ:St)(H:Hp)(x:V)(v:Value)(Q:VK),Inv X pins σ H s->RelV x v->r x H Q->
  wpAny (model X.prog X.w) X.A (f v) (EP X pins σ Q) X.xe s
noncomputable def CallR (X:Cx)(f:Value)(r:List V->Hp->VK->Prop):Prop:=
 ∀ (pins:List (Addr×Obj))(s:Shared)(σ:St)(H:Hp)(xs:List V)(us:List Value)(Q:VK),Inv X pins σ H s->Vals xs us->r xs H Q->
  wpAny (model X.prog X.w) X.A (call f us) (EP X pins σ Q) X.xe s
noncomputable def TruR (X:Cx)(r:V->Hp->(Bool->Hp->Prop)->Prop):Prop:=
 ∀ (pins:List (Addr×Obj))(s:Shared)(σ:St)(H:Hp)(x:V)(v:Value)(Q:Bool->Hp->Prop),Inv X pins σ H s->RelV x v->r x H Q->
  wpAny (model X.prog X.w) X.A (truthy v) (TP X pins σ Q) X.xe s
noncomputable def tOp (r:R2)(ta tb:TE):TE:=fun σ H Q=>ta σ H fun x H1=>tb σ H1 fun y H2=>r x y H2 Q
noncomputable def tUn (r:V->Hp->VK->Prop)(ta:TE):TE:=fun σ H Q=>ta σ H fun x H1=>r x H1 Q
noncomputable def rI (C:Int->Int->Prop)(g:Int->Int->V):R2:=fun x y H Q=>∃ i j,x=.int i/\y=.int j/\C i j/\Q (g i j) H
noncomputable def rI0 (g:Int->Int->V):R2:=fun x y H Q=>∃ i j,x=.int i/\y=.int j/\Q (g i j) H
noncomputable def rU (g:Int->V):V->Hp->VK->Prop:=fun x H Q=>∃ i,x=.int i/\Q (g i) H
section
variable {X:Cx}{a b c:Expr}{ta tb tc:TE}{pos:Pos}
theorem binT (ha:PE X a ta)(hb:PE X b tb){pins:List (Addr×Obj)}{s:Shared}{σ:St}{H:Hp}{R:V->V->Hp->Prop}(I:Inv X pins σ H s)
  (h:ta σ H fun x H1=>tb σ H1 fun y H2=>R x y H2){Q:Value->Shared->Prop}{f:Value->Value->Sem Value}
  (hf:∀ v u s2 x y H2,Inv X pins σ H2 s2->RelV x v->RelV y u->R x y H2->wpAny (model X.prog X.w) X.A (f v u) Q X.xe s2) :
  wpAny (model X.prog X.w) X.A (eval a X.env) (fun v s₁=>wpAny (model X.prog X.w) X.A (eval b X.env) (fun u s₂=>wpAny (model X.prog X.w) X.A (f v u) Q X.xe s₂) X.xe s₁) X.xe s:=by
 refine thn (ha pins s σ H _ I h) fun v s1 ⟨x,H1,I1,r1,q1⟩=>?_
 refine thn (hb pins s1 σ H1 _ I1 q1) fun u s2 ⟨y,H2,I2,r2,q2⟩=>?_
 exact hf v u s2 x y H2 I2 r1 r2 q2
theorem pe_op {op:Operator}{r:R2}(ho:OpR X (binaryOp op) r)(ha:PE X a ta)(hb:PE X b tb):PE X (.BinOp a op b pos) (tOp r ta tb):=by
 intro pins s σ H Q I h
 exact wpAny_BinOp (binT ha hb I h fun v u s2 x y H2 I2 rx ry q=>ho pins s2 σ H2 x y v u Q I2 rx ry q)
theorem pe_un {op:UnaryOp}{r:V->Hp->VK->Prop}(ho:UnR X (unaryOp op) r)(ha:PE X a ta):PE X (.UnaryOp op a pos) (tUn r ta):=by
 intro pins s σ H Q I h
 exact UnaryOp_ (thn (ha pins s σ H _ I h) fun v s1 ⟨x,H1,I1,r1,q1⟩=>ho pins s1 σ H1 x v Q I1 r1 q1)
theorem opI {f:Value->Value->Sem Value}{C:Int->Int->Prop}{g:Int->Int->Int}
  (rule:∀ (i j:Int)(t u:Tok)(s:Shared)(Q:Value->Shared->Prop)(E:Value->Shared->Prop),C i j->Q (.int (g i j) s.toks) { s with toks:=s.toks+1 }->wpAny (model X.prog X.w) X.A (f (.int i t) (.int j u)) Q E s) :
  OpR X f (rI C fun i j=>.int (g i j)):=by
 intro pins s σ H x y v u Q I rx ry h
 obtain ⟨i,j,rfl,rfl,hc,q⟩:=h
 obtain ⟨t,rfl⟩:=rx
 obtain ⟨t',rfl⟩:=ry
 exact rule i j t t' s _ _ hc ⟨.int (g i j),H,I.tok _,⟨_,rfl⟩,q⟩
theorem opI0 {f:Value->Value->Sem Value}{g:Int->Int->Int}
  (rule:∀ (i j:Int)(t u:Tok)(s:Shared)(Q:Value->Shared->Prop)(E:Value->Shared->Prop),Q (.int (g i j) s.toks) { s with toks:=s.toks+1 }->wpAny (model X.prog X.w) X.A (f (.int i t) (.int j u)) Q E s) :
  OpR X f (rI0 fun i j=>.int (g i j)):=by
 intro pins s σ H x y v u Q I rx ry h
 obtain ⟨i,j,rfl,rfl,q⟩:=h
 obtain ⟨t,rfl⟩:=rx
 obtain ⟨t',rfl⟩:=ry
 exact rule i j t t' s _ _ ⟨.int (g i j),H,I.tok _,⟨_,rfl⟩,q⟩
theorem opB0 {f:Value->Value->Sem Value}{g:Int->Int->Bool}
  (rule:∀ (i j:Int)(t u:Tok)(s:Shared)(Q:Value->Shared->Prop)(E:Value->Shared->Prop),Q (.bool (g i j)) s->wpAny (model X.prog X.w) X.A (f (.int i t) (.int j u)) Q E s) :
  OpR X f (rI0 fun i j=>.bl (g i j)):=by
 intro pins s σ H x y v u Q I rx ry h
 obtain ⟨i,j,rfl,rfl,q⟩:=h
 obtain ⟨t,rfl⟩:=rx
 obtain ⟨t',rfl⟩:=ry
 exact rule i j t t' s _ _ ⟨.bl (g i j),H,I,rfl,q⟩
noncomputable def CPow (i j:Int):Prop:=0<=j/\j<=1000000/\i.natAbs<2 ^ 64
noncomputable def CMul (i j:Int):Prop:=(-(2 ^ 64)<i/\i<2 ^ 64)\/(-(2 ^ 64)<j/\j<2 ^ 64)
theorem CMul.ok {i j:Int}(h:CMul i j):IntMulOk i j:=by
 rcases h with ⟨h1,h2⟩|⟨h1,h2⟩
 ·exact .of_left (intBits_le_64 h1 h2)
 ·exact .of_right (intBits_le_64 h1 h2)
theorem op_add:OpR X (binaryOp .Add) (rI0 fun i j=>.int (i+j)):=opI0 fun _ _ _ _ _ _ _ q=>add_int q
theorem op_sub:OpR X (binaryOp .Sub) (rI0 fun i j=>.int (i - j)):=opI0 fun _ _ _ _ _ _ _ q=>sub_int q
theorem op_mod:OpR X (binaryOp .Mod) (rI (fun _ j=>0<j) fun i j=>.int (i % j)):=opI fun i j _ _ _ _ _ hc q=>by
 have h1:(0:Int)<j:=hc
 exact mod_int' (by omega) (by rw [Int.fmod_eq_emod_of_nonneg i (by omega)];exact q)
theorem unI {f:Value->Sem Value}{g:Int->Int}
  (rule:∀ (i:Int)(t:Tok)(s:Shared)(Q:Value->Shared->Prop)(E:Value->Shared->Prop),Q (.int (g i) s.toks) { s with toks:=s.toks+1 }->wpAny (model X.prog X.w) X.A (f (.int i t)) Q E s) :
  UnR X f (rU fun i=>.int (g i)):=by
 intro pins s σ H x v Q I rx h
 obtain ⟨i,rfl,q⟩:=h
 obtain ⟨t,rfl⟩:=rx
 exact rule i t s _ _ ⟨.int (g i),H,I.tok _,⟨_,rfl⟩,q⟩
theorem un_neg:UnR X (unaryOp .USub) (rU fun i=>.int (-i)):=unI fun _ _ _ _ _ q=>neg_int q
end
section
variable {X:Cx}{a b c:Expr}{ta tb tc:TE}{pos:Pos}
theorem fin_bl {pins:List (Addr×Obj)}{σ:St}{H:Hp}{s:Shared}{Q:VK}{k k':Bool}(I:Inv X pins σ H s)(q:Q (.bl k) H)(e:k=k'):EP X pins σ Q (.bool k') s:=by
 subst e
 exact ⟨.bl k,H,I,rfl,q⟩
theorem op_lt:OpR X (compareOp .Lt) (rI0 fun i j=>.bl (decide (i<j))):=opB0 fun _ _ _ _ _ _ _ q=>lt_int q
theorem op_le:OpR X (compareOp .LtE) (rI0 fun i j=>.bl (decide (i<=j))):=opB0 fun _ _ _ _ _ _ _ q=>le_int q
theorem op_gt:OpR X (compareOp .Gt) (rI0 fun i j=>.bl (decide (j<i))):=opB0 fun _ _ _ _ _ _ _ q=>gt_int q
theorem op_ge:OpR X (compareOp .GtE) (rI0 fun i j=>.bl (decide (j<=i))):=opB0 fun _ _ _ _ _ _ _ q=>ge_int q
theorem op_in_str:OpR X (compareOp .In) (fun x y H Q=>∃ i j,x=.str i/\y=.str j/\Q (.bl (!(Builtin.Str.occurrences j i 0 j.length 1).isEmpty)) H):=by
 intro pins s σ H x y v u Q I rx ry h
 obtain ⟨i,j,rfl,rfl,q⟩:=h
 obtain ⟨t,rfl⟩:=rx
 obtain ⟨t',rfl⟩:=ry
 exact in_str (fin_bl I q rfl)
theorem op_isN:OpR X (compareOp .Is) (fun x y H Q=>y=.non/\Q (.bl (decide (x=.non))) H):=by
 intro pins s σ H x y v u Q I rx ry h
 obtain ⟨rfl,q⟩:=h
 cases ry
 refine is_none_gen (fin_bl I q ?_)
 cases x<;>first
  | (cases rx;rfl)
  | (obtain ⟨t,rfl⟩:=rx;rfl)
theorem op_notN:OpR X (compareOp .IsNot) (fun x y H Q=>y=.non/\Q (.bl (!decide (x=.non))) H):=by
 intro pins s σ H x y v u Q I rx ry h
 obtain ⟨rfl,q⟩:=h
 cases ry
 refine isnot_none_gen (fin_bl I q ?_)
 cases x<;>first
  | (cases rx;rfl)
  | (obtain ⟨t,rfl⟩:=rx;rfl)
theorem OpR.or {f:Value->Value->Sem Value}{r r':R2}(h:OpR X f r)(h':OpR X f r'):OpR X f (fun x y H Q=>r x y H Q\/r' x y H Q):=by
 intro pins s σ H x y v u Q I rx ry q
 rcases q with q|q
 ·exact h pins s σ H x y v u Q I rx ry q
 ·exact h' pins s σ H x y v u Q I rx ry q
theorem nomark (b:Expr){op:CmpOp}(h:op≠.In:=by decide)(h2:op≠.NotIn:=by decide):behindInMarks op b=false:=by
 have e1:(op == CmpOp.In)=false:=by cases op<;>first|rfl|exact absurd rfl h
 have e2:(op == CmpOp.NotIn)=false:=by cases op<;>first|rfl|exact absurd rfl h2
 cases b<;>simp [behindInMarks,e1,e2]
theorem pe_cmpR {op:CmpOp}{r:R2}(ho:OpR X (compareOp op) r)(ha:PE X a ta)(hb:PE X b tb)(hm:behindInMarks op b=false):PE X (.Compare a [op] [b] pos) (tOp r ta tb):=by
 intro pins s σ H Q I h
 exact wpAny_Compare1 (binT ha hb I h fun v u s2 x y H2 I2 rx ry q=>ho pins s2 σ H2 x y v u Q I2 rx ry q) hm
noncomputable def tTest (t:TE):TT:=fun σ H Q=>t σ H fun x H'=>∃ k,x=.bl k/\Q k H'
theorem pt_cmpR {op:CmpOp}{r:R2}(ho:OpR X (compareOp op) r)(ha:PE X a ta)(hb:PE X b tb)(hm:behindInMarks op b=false):PT X (.Compare a [op] [b] pos) (tTest (tOp r ta tb)):=by
 intro pins s σ H Q I h
 refine wpAny_isTrue_Compare1 (thn (ha pins s σ H _ I h) fun v s1 ⟨x,H1,I1,r1,q1⟩=>thn (hb pins s1 σ H1 _ I1 q1) fun u s2 ⟨y,H2,I2,r2,q2⟩=>
  thn (ho pins s2 σ H2 x y v u _ I2 r1 r2 q2) fun c s3 ⟨z,H3,I3,r3,k,e,q3⟩=>?_) hm
 subst e
 cases r3
 exact wpAny_truthy_bool ⟨H3,I3,q3⟩
noncomputable def tChain (r r':R2)(ta tb tc:TE):TE:=fun σ H Q=>ta σ H fun x H1=>tb σ H1 fun y H2=>r x y H2 fun z H3=>∃ k,z=.bl k /\
 (if k=true then tc σ H3 fun w' H4=>r' y w' H4 Q else Q (.bl false) H3)
theorem pe_chain {op op':CmpOp}{r r':R2}(ho:OpR X (compareOp op) r)(ho':OpR X (compareOp op') r')(ha:PE X a ta)(hb:PE X b tb)(hc:PE X c tc)
  (hm:lastMarks [op,op'] [b,c]=false:=by with_unfolding_all rfl):PE X (.Compare a [op,op'] [b,c] pos) (tChain r r' ta tb tc):=by
 intro pins s σ H Q I h
 refine Compare_chain (thn (ha pins s σ H _ I h) fun v s1 ⟨x,H1,I1,r1,q1⟩=>chain_link (thn (hb pins s1 σ H1 _ I1 q1) fun u s2 ⟨y,H2,I2,r2,q2⟩=>
  thn (ho pins s2 σ H2 x y v u _ I2 r1 r2 q2) fun d s3 ⟨z,H3,I3,r3,k,e,q3⟩=>?_)) hm
 subst e
 cases r3
 refine wpAny_truthy_bool ?_
 cases k with
 | false=>exact ite_ff ⟨.bl false,H3,I3,rfl,q3⟩
 | true=>exact ite_tt (chain_last (thn (hc pins s3 σ H3 _ I3 q3) fun w' s4 ⟨z',H4,I4,r4,q4⟩=>ho' pins s4 σ H4 y z' u w' Q I4 r2 r4 q4))
theorem pt_chain {op op':CmpOp}{r r':R2}(ho:OpR X (compareOp op) r)(ho':OpR X (compareOp op') r')(ha:PE X a ta)(hb:PE X b tb)(hc:PE X c tc)
  (hm:lastMarks [op,op'] [b,c]=false:=by with_unfolding_all rfl):PT X (.Compare a [op,op'] [b,c] pos) (tTest (tChain r r' ta tb tc)):=by
 intro pins s σ H Q I h
 refine isTrue_chain (thn (ha pins s σ H _ I h) fun v s1 ⟨x,H1,I1,r1,q1⟩=>test_link (thn (hb pins s1 σ H1 _ I1 q1) fun u s2 ⟨y,H2,I2,r2,q2⟩=>
  thn (ho pins s2 σ H2 x y v u _ I2 r1 r2 q2) fun d s3 ⟨z,H3,I3,r3,k,e,q3⟩=>?_)) hm
 subst e
 cases r3
 refine wpAny_truthy_bool ?_
 cases k with
 | false=>
  obtain ⟨k',e',q'⟩:=q3
  cases e'
  exact ite_ff ⟨H3,I3,q'⟩
 | true=>
  refine ite_tt (test_last (thn (hc pins s3 σ H3 _ I3 q3) fun w' s4 ⟨z',H4,I4,r4,q4⟩=>thn (ho' pins s4 σ H4 y z' u w' _ I4 r2 r4 q4) fun d' s5 ⟨z2,H5,I5,r5,k2,e2,q5⟩=>?_))
  subst e2
  cases r5
  exact wpAny_truthy_bool ⟨H5,I5,q5⟩
noncomputable def TruV (K:PySem.W.Frag)(x:V)(H:Hp)(k:Bool):Prop:=
 match x with
 | .non=>k=false
 | .bl b=>k=b
 | .int i=>k=(i != 0)
 | .str y=>y.length<=sizeLine/\k=((y.length:Int) != 0)
 | .byt y=>y.size<=sizeLine/\k=((y.size:Int) != 0)
 | .ref p=>(∃ xs,SqL K H p xs/\k = !xs.isEmpty)\/(∃ xs,SqT K H p xs/\k = !xs.isEmpty)\/∃ kvs,H p=some (.dK kvs)/\k = !kvs.isEmpty
 | _=>False
theorem isEmpty_kv {κ:Type}{kvs:List (κ×V)}{vs:List (κ×Value)}(r:KV kvs vs):(!vs.isEmpty) = !kvs.isEmpty:=by
 cases r<;>rfl
theorem isEmpty_of {xs:List V}{its:List Value}(r:Vals xs its):(!its.toArray.isEmpty) = !xs.isEmpty:=by
 cases r<;>simp
theorem line63:(sizeLine:Nat)<2 ^ 63:=by rw [sizeLine_eq];decide
theorem tru_ok:TruR X (fun x H Q=>∃ k,TruV X.K x H k/\Q k H):=by
 intro pins s σ H x v Q I rx h
 obtain ⟨k,e,q⟩:=h
 have hl:=line63
 have hs:sizeLine=16777216:=sizeLine_eq
 cases x with
 | non=>
  cases rx
  have e':k=false:=e
  subst e'
  exact truthy_none ⟨H,I,q⟩
 | bl b=>
  cases rx
  have e':k=b:=e
  subst e'
  exact wpAny_truthy_bool ⟨H,I,q⟩
 | int i=>
  obtain ⟨t,rfl⟩:=rx
  have e':k=(i != 0):=e
  subst e'
  exact PySem.P.truthy_int ⟨H,I,q⟩
 | str y=>
  obtain ⟨t,rfl⟩:=rx
  obtain ⟨hy,e'⟩:y.length<=sizeLine/\k=((y.length:Int) != 0):=e
  subst e'
  exact PySem.P.truthy_str (by omega) ⟨H,I.tok _,q⟩
 | byt y=>
  obtain ⟨t,rfl⟩:=rx
  obtain ⟨hy,e'⟩:y.size<=sizeLine/\k=((y.size:Int) != 0):=e
  subst e'
  exact PySem.W.truthy_bytes (by omega) ⟨H,I.tok _,q⟩
 | ref p=>
  cases rx
  have e':(∃ xs,SqL X.K H p xs/\k = !xs.isEmpty)\/(∃ xs,SqT X.K H p xs/\k = !xs.isEmpty)\/∃ kvs,H p=some (.dK kvs)/\k = !kvs.isEmpty:=e
  rcases e' with ⟨xs,hx,e'⟩|⟨xs,hx,e'⟩|⟨kvs,hx,e'⟩
  ·subst e'
   obtain ⟨its,r,pl,hz⟩:=I.list hx
   have hlen:=r.length
   exact wpAny_truthy_list pl.isList (by simp only [List.size_toArray];omega) ⟨H,I.tok _,by rw [isEmpty_of r];exact q⟩
  ·subst e'
   obtain ⟨its,r,pl,hz⟩:=I.tuple hx
   have hlen:=r.length
   exact truthy_tuple pl (by simp only [List.size_toArray];omega) ⟨H,I.tok _,by rw [isEmpty_of r];exact q⟩
  ·subst e'
   obtain ⟨hz,hS,vs,r,m⟩:kvs.length<=sizeLine/\(p == sysModules)=false/\∃ vs,KV kvs vs/\s.heap.DictOf (mixKind X.prog X.w) p vs:=I.hok p _ hx
   have hlen:kvs.length=vs.length:=Paired.length r
   exact wpAny_truthy_dict hS m (by omega) ⟨H,I.tok _,by rw [isEmpty_kv r];exact q⟩
 | _=>exact (show False from e).elim
theorem pt_truth (ha:PE X a ta)(he:∀ whole,isTrue a X.env whole=(do let v <- whole;standAt a.pos;holding [v] (truthy v))) :
  PT X a (fun σ H Q=>ta σ H fun x H'=>∃ k,TruV X.K x H' k/\Q k H'):=by
 intro pins s σ H Q I h
 exact isTrue_plain (thn (ha pins s σ H _ I h) fun v s1 ⟨x,H1,I1,r1,q1⟩=>tru_ok pins s1 σ H1 x v Q I1 r1 q1) (he _)
theorem op_add_str:OpR X (binaryOp .Add) (fun x y H Q=>∃ i j,x=.str i/\y=.str j/\i.length+j.length<=sizeLine/\Q (.str (i++j)) H):=by
 intro pins s σ H x y v u Q I rx ry h
 obtain ⟨i,j,rfl,rfl,hz,q⟩:=h
 obtain ⟨t,rfl⟩:=rx
 obtain ⟨t',rfl⟩:=ry
 exact add_str (fun t' tk=>⟨.str (i++j),H,I.tok _,⟨_,rfl⟩,q⟩) hz
theorem vals1 {x:V}{us:List Value}(r:Vals [x] us):∃ u,us=[u]/\RelV x u:=by
 cases r with
 | cons r1 r2=>cases r2;exact ⟨_,rfl,r1⟩
theorem vals2 {x y:V}{us:List Value}(r:Vals [x,y] us):∃ u w',us=[u,w']/\RelV x u/\RelV y w':=by
 cases r with
 | cons r1 r2=>
  cases r2 with
  | cons r3 r4=>cases r4;exact ⟨_,_,rfl,r1,r3⟩
theorem call_int1:CallR X (.type "int") (fun xs H Q=>(∃ i,xs=[.int i]/\Q (.int i) H)\/∃ k,xs=[.bl k]/\Q (.int (if k then 1 else 0)) H):=by
 intro pins s σ H xs us Q I r h
 rcases h with ⟨i,rfl,q⟩|⟨k,rfl,q⟩
 ·obtain ⟨u,rfl,t,rfl⟩:=vals1 r
  exact call_int_int ⟨.int i,H,I,⟨_,rfl⟩,q⟩
 ·obtain ⟨u,rfl,r1⟩:=vals1 r
  cases r1
  exact call_int_bool ⟨.int (if k then 1 else 0),H,I.tok _,⟨_,rfl⟩,q⟩
end
end L2
namespace L2
open PySem PySem.Spec PyProof.Rows
structure ObjM (h:Heap)(x dx C:Addr)(mA:Str->Option Value):Prop where
 obj:h.get? x=some (PySem.W.instObj C dx)
 ns:h.Ns1 dx mA
 ne:dx≠x
section
variable {prog:Program}{w:World}{A:Around}{E:Value->Shared->Prop}{s:Shared}{K:PySem.W.Frag}{x dx C f:Addr}{mA:Str->Option Value}{name:Str}{v:Value}
end
theorem RelO.some_of {v:V}{o:Option Value}(r:RelO (some v) o):∃ u,o=some u/\RelV v u:=by
 cases o with
 | none=>exact (show False from r).elim
 | some u=>exact ⟨u,rfl,r⟩
section
variable {P:Program}{w:World}{H H':Hp}{h h':Heap}{a C dx:Addr}{fs fs':List (Str×V)}
end
structure Cls (K:PySem.W.Frag)(C:Addr):Prop where
 pg:PySem.W.plainGet K C Str.empty=true
 hd:PySem.W.hasDictIn K C=true
 po:PySem.W.plainOver K C=true
 sa:PySem.W.findIn K (.ref C) "__setattr__" = some (some (.builtin "object.__setattr__"))
theorem Cls.get {K:PySem.W.Frag}{C:Addr}(c:Cls K C)(f:Str):PySem.W.plainGet K C f=true:=c.pg
structure Con (K:PySem.W.Frag)(C:Addr)(f:Str)(v:V)(u:Value):Prop where
 at_:PySem.W.findIn K (.ref C) f=some (some u)
 rel:RelV v u
 get:PySem.W.specialIn K u "__get__" = some none
 cp:PySem.W.copiedNames.contains f=false
structure Meth (K:PySem.W.Frag)(C:Addr)(m:Str)(f:Addr):Prop where
 at_:PySem.W.findIn K (.ref C) m=some (some (.ref f))
 fn:PySem.W.isFn K (.ref f)=true
 kp:PySem.W.keepIn K (.ref f)=true
section
variable {X:Cx}{pins:List (Addr×Obj)}{σ:St}{H:Hp}{s:Shared}{a C dx:Addr}{fs:List (Str×V)}{f:Str}{v:V}{A:Around}{E:Value->Shared->Prop}
theorem Inv.made (I:Inv X pins σ H s):Inv X pins σ (upd (upd H s.heap.objs.size (.own (s.heap.objs.size+1))) (s.heap.objs.size+1) (.ins C s.heap.objs.size []))
  { s with heap:=(s.heap.push PySem.W.emptyDict).push (PySem.W.instObj C s.heap.objs.size) }:=by
 have e1:(s.heap.push PySem.W.emptyDict).get? s.heap.objs.size=some PySem.W.emptyDict:=Heap.get?_push_size s.heap rfl
 have e2:((s.heap.push PySem.W.emptyDict).push (PySem.W.instObj C s.heap.objs.size)).get? (s.heap.objs.size+1)=some (PySem.W.instObj C s.heap.objs.size):=by
  have:=Heap.get?_push_size (s.heap.push PySem.W.emptyDict) (o:=PySem.W.instObj C s.heap.objs.size) rfl
  rwa [Heap.size_push] at this
 have e3:(s.heap.push PySem.W.emptyDict).Ns s.heap.objs.size (fun _=>none):=⟨PySem.W.emptyDict,#[],_,e1,rfl,(fun e he=>absurd he (by simp)),fun _=>rfl⟩
 have I1:=I.laid (a:=s.heap.objs.size) (o:=.own (s.heap.objs.size+1)) (h':=s.heap.push PySem.W.emptyDict) (t':=s.toks) (fun b u q=>Heap.get?_push_of_some _ q) (Nat.le_refl _) ⟨_,e1⟩
 refine I1.laid (a:=s.heap.objs.size+1) (o:=.ins C s.heap.objs.size []) (t':=s.toks) (fun b u q=>Heap.get?_push_of_some _ q) (Nat.le_of_eq (Heap.size_push _ _)) ?_
 have ne:s.heap.objs.size≠s.heap.objs.size+1:=Nat.ne_of_lt (Nat.lt_succ_self _)
 refine ⟨by rw [upd_ne ne,upd_same],Nat.zero_le _,ne,e2,fun _=>none,(Heap.Ns1.of_empty e3).at fun o q=>Heap.get?_push_of_some _ q,fun _=>True.intro,fun y hy=>absurd rfl hy⟩
end
section
variable {X:Cx}{o e value:Expr}{f:Str}{pos pos' tpos:Pos}{ta tv:TE}
end
section
variable {X:Cx}{pins:List (Addr×Obj)}{σ:St}{H:Hp}{s:Shared}{A:Around}{E:Value->Shared->Prop}{Q:Value->Shared->Prop}{c:Value}{b:Bool}
inductive TyOf (K:PySem.W.Frag)(H:Hp):V->Value->Prop where
 | non:TyOf K H .non (.type "NoneType")
 | bl (x:Bool):TyOf K H (.bl x) (.type "bool")
 | int (i:Int):TyOf K H (.int i) (.type "int")
 | str (x:Str):TyOf K H (.str x) (.type "str")
 | flt (x:UInt64):TyOf K H (.flt x) (.type "float")
 | lst {a:Addr}{xs:List V}(e:H a=some (.lst xs)):TyOf K H (.ref a) (.type "list")
 | frz {a:Addr}{o:Obj}{xs:List V}(e:H a=some (.frz o (.lst xs))):TyOf K H (.ref a) (.type "list")
 | tup {a:Addr}{xs:List V}(e:H a=some (.tup xs)):TyOf K H (.ref a) (.type "tuple")
 | dK {a:Addr}{kvs:List (Key×V)}(e:H a=some (.dK kvs)):TyOf K H (.ref a) (.type "dict")
 | dT {a:Addr}{kvs:List (List Key×V)}(e:H a=some (.dT kvs)):TyOf K H (.ref a) (.type "dict")
 | ins {a C dx:Addr}{fs:List (Str×V)}(e:H a=some (.ins C dx fs))(cl:Cls K C)(ha:PySem.W.findIn K (.ref C) "__class__" = some (some (.builtin "object.__class__")))
   (hn:PySem.W.specialIn K (.builtin "object.__class__") "__get__" = some (some (.builtin "getset_descriptor.__get__"))) (htk:PySem.W.takesIn K (.builtin "object.__class__")=some true)
   (hm:PySem.W.mroIn K C (.type "object")=some true):TyOf K H (.ref a) (.ref C)
end
end L2
namespace L2
open PySem PySem.Spec PyProof.Rows
structure Room (k:Nat)(A:Around):Prop where
 hd:A.handled=none
 dp:A.depth+3 * k+5<recursionLimit
 un:A.units+16 * k+200<cLine
theorem Room.deeper {k:Nat}{A:Around}(r:Room (k+1) A)(env:Env):Room k (A.deeper env):=
 ⟨r.hd,by have:=r.dp;show A.depth+1+3 * k+5<_;omega,by have:=r.un;show A.units+3+16 * k+200<_;omega⟩
theorem Room.depth {k:Nat}{A:Around}(r:Room k A):A.depth<recursionLimit:=by have:=r.dp;omega
theorem Room.units {k:Nat}{A:Around}(r:Room k A):A.units+64<cLine:=by have:=r.un;omega
noncomputable def tNil:TA:=fun _ H Q=>Q [] H
noncomputable def tCons (ta:TE)(tr:TA):TA:=fun σ H Q=>ta σ H fun x H1=>tr σ H1 fun xs H2=>Q (x::xs) H2
section
variable {X:Cx}{e:Expr}{es:List Expr}{te:TE}{t:TA}{pos:Pos}
theorem pa_nil:PA X [] tNil:=fun _ _ _ _ H Q I h=>Calls.spliced_nil ⟨[],H,I,.nil,h⟩
theorem pa_cons (ha:PE X e te)(hr:PA X es t)(hs:starEach (e::es) X.env=(false,eval e X.env)::starEach es X.env:=by rfl):PA X (e::es) (tCons te t):=by
 intro pos pins s σ H Q I h
 rw [hs]
 show wpAny _ _ (spliced ((false,eval e X.env)::backTo pos (starEach es X.env))) _ _ s
 refine Calls.spliced_cons (thn (ha pins s σ H _ I h) fun u s1 ⟨x,H1,I1,r1,q1⟩=>?_)
 exact thn (hr pos pins s1 σ H1 _ I1 q1) fun us s2 ⟨xs,H2,I2,r2,q2⟩=>⟨x::xs,H2,I2,.cons r1 r2,q2⟩
noncomputable def tTup (t:TA):TE:=fun σ H Q=>t σ H fun xs H1=>xs.length<=sizeLine/\∀ p,H1 p=none->Q (.ref p) (upd H1 p (.tup xs))
noncomputable def tLst (t:TA):TE:=fun σ H Q=>t σ H fun xs H1=>xs.length<=sizeLine/\∀ p,H1 p=none->Q (.ref p) (upd H1 p (.lst xs))
theorem pe_tup {x1} (h:PA X es t):PE X (.Tuple es x1 pos) (tTup t):=by
 intro pins s σ H Q I hq
 refine wpAny_Tuple_spliced (thn (h pos pins s σ H _ I hq) fun us s1 ⟨xs,H1,I1,r,z,q⟩=>⟨by rw [<- r.length];exact z,?_⟩)
 have hf:H1 s1.heap.objs.size=none:=I1.hok.fresh (Nat.le_refl _)
 refine ⟨.ref s1.heap.objs.size,upd H1 s1.heap.objs.size (.tup xs),I1.laid (t':=s1.toks) (fun b u e=>Heap.get?_push_of_some _ e) (Nat.le_refl _) ?_,rfl,q _ hf⟩
 exact ⟨z,us,r,⟨_,Heap.get?_push_size _ rfl,rfl,_,rfl,rfl⟩⟩
theorem pe_lst (h:PA X es t):PE X (.List es pos) (tLst t):=by
 intro pins s σ H Q I hq
 refine wpAny_List_spliced (thn (h pos pins s σ H _ I hq) fun us s1 ⟨xs,H1,I1,r,z,q⟩=>⟨by rw [<- r.length];exact z,?_⟩)
 have hf:H1 s1.heap.objs.size=none:=I1.hok.fresh (Nat.le_refl _)
 refine ⟨.ref s1.heap.objs.size,upd H1 s1.heap.objs.size (.lst xs),I1.laid (t':=s1.toks) (fun b u e=>Heap.get?_push_of_some _ e) (Nat.le_refl _) ?_,rfl,q _ hf⟩
 exact ⟨z,us,0,r,Heap.get?_push_size _ rfl⟩
end
noncomputable abbrev Sp:=List V->Hp->VK->XK->Prop
noncomputable abbrev CXT:=List Env->Hp->Shared->XK->Value->Shared->Prop
structure Env0 (P:Program)(w:World)(K:PySem.W.Frag)(mg:Str->Option Value)(base:Heap)(A:Around)(outer:List Env)(s:Shared)(H:Hp):Prop where
 frames:A.frames=some outer
 mod:Mod K mg base
 bs:∀ b o,base.get? b=some o->s.heap.get? b=some o/\H b=none
 bsz:base.objs.size<=s.heap.objs.size
 funs:s.heap.FunFrames base outer
 frf:∀ b∈frs outer,H b=none
 hok:HOk P w H s.heap
 bare:AllBare s.gens
noncomputable def CE (outer:List Env)(P:Program)(w:World)(H:Hp)(s:Shared)(Q:VK)(u:Value)(s':Shared):Prop:=
 ∃ v H',s'.os=s.os/\AllBare s'.gens/\Un (frs outer) [] H H' s.heap s'.heap/\HOk P w H' s'.heap/\RelV v u/\Q v H'
noncomputable def CR (CX:CXT)(outer:List Env)(P:Program)(w:World)(H:Hp)(s:Shared)(Q:VK)(E:XK)(r:Result)(s':Shared):Prop:=
 match r with
 | .ok (.ret u)=>CE outer P w H s Q u s'
 | .ok _=>False
 | .error e=>CX outer H s E e s'
structure FnOk (P:Program)(w:World)(K:PySem.W.Frag)(mg:Str->Option Value)(base:Heap)(CX:CXT)(k:Nat)(f:Addr)(fd:FuncData)(ps:List Str)(sp:Sp):Prop where
 len:∀ vs H Q E,sp vs H Q E->vs.length=ps.length
 run:∀ (A:Around)(outer:List Env)(s:Shared)(H:Hp)(args:Args)(us:List Value)(vs:List V)(Q:VK)(E:XK),Room k A->Env0 P w K mg base A outer s H->BindsTo s fd args (ps.zip us)->Vals vs us->sp vs H Q E->
  codeAny (model P w) A (.call (.ref f) args) (CR CX outer P w H s Q E) s
section
variable {X:Cx}{pins:List (Addr×Obj)}{σ:St}{H:Hp}{s s':Shared}
theorem Inv.env0 (I:Inv X pins σ H s):Env0 X.prog X.w X.K X.mg X.base X.A X.stack s H:=
 ⟨I.ok.frames,I.ok.mod,I.bs,Nat.le_trans I.ok.bsz I.sz,I.stack,I.stkFree,I.hok,I.bare⟩
theorem Inv.after {Q:VK}{u:Value}(I:Inv X pins σ H s)(h:CE X.stack X.prog X.w H s Q u s'):EP X pins σ Q u s':=by
 obtain ⟨v,H',os,bare,un,hok,r,q⟩:=h
 obtain ⟨hh,g,d,t,os'⟩:=s'
 obtain rfl:os'=s.os:=os
 exact ⟨v,H',I.call (h':=hh) (g':=g) (d':=d) (t':=t) (ch:=[]) un hok bare (fun b z=>absurd z (by simp)),r,q⟩
end
noncomputable def tCall (sp:Sp)(dvs:List V)(E:XK)(t:TA):TE:=fun σ H Q=>t σ H fun vs H1=>sp (vs++dvs) H1 Q E
noncomputable def Binds (K:PySem.W.Frag)(fd:FuncData)(ps:List Str)(ds:List Value):Prop:=
 ∀ (s:Shared)(us:List Value),K.In s.heap->(us++ds).length=ps.length->BindsTo s fd ⟨us,[]⟩ (ps.zip (us++ds))
theorem Binds.all {K:PySem.W.Frag}{fd:FuncData}{ps:List Str}(h:∀ us:List Value,us.length=ps.length->bindArgs fd ⟨us,[]⟩=pure (ps.zip us)):Binds K fd ps []:=fun s us _ hl=>by
 rw [List.append_nil] at hl ⊢
 exact .of_eq (h us hl)
noncomputable def Passes (CX:CXT)(X:Cx)(E:XK):Prop:=∀ (pins:List (Addr×Obj))(σ:St)(H:Hp)(s:Shared)(e:Value)(s':Shared),Inv X pins σ H s->CX X.stack H s E e s'->X.xe e s'
section
variable {X:Cx}{CX:CXT}{k:Nat}{f C:Addr}{fd:FuncData}{ps:List Str}{sp:Sp}{dvs:List V}{ds:List Value}{E:XK}{x m:Str}{p pos apos:Pos}{e o:Expr}{es:List Expr}{ta:TE}{t:TA}
theorem run_fn {pins:List (Addr×Obj)}{σ:St}{H:Hp}{s:Shared}{Q:VK}{us:List Value}{vs:List V}(F:FnOk X.prog X.w X.K X.mg X.base CX k f fd ps sp)(hr:Room k X.A)(hb:Binds X.K fd ps ds)(hd:Vals dvs ds)(hx:Passes CX X E)
  (I:Inv X pins σ H s)(r:Vals vs us)(h:sp (vs++dvs) H Q E):wpAny (model X.prog X.w) X.A (call (.ref f) us) (EP X pins σ Q) X.xe s:=by
 have r2:Vals (vs++dvs) (us++ds):=r.append hd
 have hl:(us++ds).length=ps.length:=by rw [<- r2.length];exact F.len _ _ _ _ h
 refine wpAny_call (codeAny_mono (F.run X.A X.stack s H ⟨us,[]⟩ (us++ds) (vs++dvs) Q E hr I.env0 (hb s us I.kIn hl) r2 h) fun r s' hq=>?_)
 cases r with
 | error e=>exact hx pins σ H s e s' I hq
 | ok fl=>
  cases fl with
  | ret u=>exact I.after hq
  | next=>exact False.elim hq
  | brk=>exact False.elim hq
  | cont=>exact False.elim hq
theorem pe_call (F:FnOk X.prog X.w X.K X.mg X.base CX k f fd ps sp)(hr:Room k X.A)(hg:Gl X x)(hm:X.mg x=some (.ref f))(hk:PySem.W.keepIn X.K (.ref f)=true)(hb:Binds X.K fd ps ds)(hd:Vals dvs ds)(hx:Passes CX X E)
  (ha:PA X (e::es) t)(hdb:(x == ("__debug__":Str))=false:=by decide) (he:starEach (e::es) X.env=(false,eval e X.env)::starEach es X.env:=by rfl)(hpl:(backTo pos (starEach es X.env)).any (·.1)=false:=by rfl) :
  PE X (.Call (.Name x p) (e::es) [] pos) (tCall sp dvs E t):=by
 intro pins s σ H Q I h
 refine wpAny_Call_Name_kw (ld_glob I hg hm ?_ hdb)
 refine PySem.W.callWith_K (h₀:=X.base) I.ok.mod.kin hk (thn (ha pos pins s σ H _ I h) fun us s1 ⟨vs,H1,I1,r,q⟩=>⟨I1.kIn,?_⟩) he hpl
 exact run_fn F hr hb hd hx I1 r q
theorem pe_call0 (F:FnOk X.prog X.w X.K X.mg X.base CX k f fd ps sp)(hr:Room k X.A)(hg:Gl X x)(hm:X.mg x=some (.ref f))(hk:PySem.W.keepIn X.K (.ref f)=true)(hb:Binds X.K fd ps ds)(hd:Vals dvs ds)(hx:Passes CX X E)
  (hdb:(x == ("__debug__":Str))=false:=by decide):PE X (.Call (.Name x p) [] [] pos) (tCall sp dvs E tNil):=by
 intro pins s σ H Q I h
 refine wpAny_Call_Name_kw (ld_glob I hg hm ?_ hdb)
 exact PySem.W.callWith_K0 I.kIn hk (run_fn (us:=[]) F hr hb hd hx I .nil h)
structure Mk (K:PySem.W.Frag)(C f:Addr):Prop where
 makes:PySem.W.makesIn K C=true
 init:PySem.W.findIn K (.ref C) "__init__" = some (some (.ref f))
 fn:PySem.W.isFn K (.ref f)=true
 kp:PySem.W.keepIn K (.ref C)=true
end
section
variable {X:Cx}{CX:CXT}{k:Nat}{f C:Addr}{fd:FuncData}{ps ks:List Str}{sp:Sp}{E:XK}{x m:Str}{p pos apos kpos:Pos}{e o:Expr}{es:List Expr}{kws:List Keyword}{te ta:TE}{t tk:TA}{nm:Option Str}
structure KBinds (K:PySem.W.Frag)(fd:FuncData)(ps ks:List Str)(g:List Value->List Value->List Value)(gV:List V->List V->List V):Prop where
 to:∀ (s:Shared)(us ws:List Value),K.In s.heap->(g us ws).length=ps.length->BindsTo s fd ⟨us,ks.zip ws⟩ (ps.zip (g us ws))
 rel:∀ {vs:List V}{us:List Value}{zs:List V}{ws:List Value},Vals vs us->Vals zs ws->Vals (gV vs zs) (g us ws)
variable {g:List Value->List Value->List Value}{gV:List V->List V->List V}
end
structure FnScope (N P:List Str)(sc:Scope):Prop where
 kind:sc.kind=.function
 co:sc.isCoroutine=false
 gen:sc.isGenerator=false
 nd:N.Nodup
 pre:N.take P.length=P
 par:∀ x∈P,sc.names.lookup x=some .local\/sc.names.lookup x=some .cell
 nofree:∀ y∈sc.names,y.2≠.free
theorem bindL_out {kindOf:Str->Option NameKind}{x:Str}:∀ {binds:List (Str×Value)}{m:Str->Option Value},(∀ v,(x,v)∉binds)->bindL kindOf binds m x=m x
 | [],_,_=>rfl
 | (n,v)::r,m,h=>by
  unfold bindL
  rw [bindL_out fun w hw=>h w (List.mem_cons_of_mem _ hw)]
  split
  ·have:x≠n:=by rintro rfl;exact h v List.mem_cons_self
   simp [this]
  ·rfl
theorem bindC_out {kindOf:Str->Option NameKind}{x:Str}:∀ {binds:List (Str×Value)}{m:Str->Option Value},(∀ v,(x,v)∉binds)->bindC kindOf binds m x=m x
 | [],_,_=>rfl
 | (n,v)::r,m,h=>by
  unfold bindC
  rw [bindC_out fun w hw=>h w (List.mem_cons_of_mem _ hw)]
  split
  ·rfl
  ·have:x≠n:=by rintro rfl;exact h v List.mem_cons_self
   simp [this]
theorem bindL_get {kindOf:Str->Option NameKind}{x:Str}{v:Value}:∀ {P:List Str}{vs:List Value}{i:Nat}{m:Str->Option Value},P.Nodup->P[i]? = some x->vs[i]? = some v->kindOf x=some .local->
  bindL kindOf (P.zip vs) m x=some v
 | [],_,_,_,_,h,_,_=>by simp at h
 | _::_,[],_,_,_,_,h,_=>by simp at h
 | p::P,w::vs,0,m,nd,h1,h2,hk=>by
  simp at h1 h2;subst h1;subst h2
  show bindL kindOf ((p,w)::P.zip vs) m p=_
  unfold bindL
  rw [bindL_out fun v hv=>(List.nodup_cons.mp nd).1 (List.of_mem_zip hv).1,if_pos hk]
  simp
 | p::P,w::vs,i+1,m,nd,h1,h2,hk=>by
  show bindL kindOf ((p,w)::P.zip vs) m x=_
  unfold bindL
  exact bindL_get (i:=i) (List.nodup_cons.mp nd).2 (by simpa using h1) (by simpa using h2) hk
theorem bindC_get {kindOf:Str->Option NameKind}{x:Str}{v:Value}:∀ {P:List Str}{vs:List Value}{i:Nat}{m:Str->Option Value},P.Nodup->P[i]? = some x->vs[i]? = some v->kindOf x≠some .local->
  bindC kindOf (P.zip vs) m x=some v
 | [],_,_,_,_,h,_,_=>by simp at h
 | _::_,[],_,_,_,_,h,_=>by simp at h
 | p::P,w::vs,0,m,nd,h1,h2,hk=>by
  simp at h1 h2;subst h1;subst h2
  show bindC kindOf ((p,w)::P.zip vs) m p=_
  unfold bindC
  rw [bindC_out fun v hv=>(List.nodup_cons.mp nd).1 (List.of_mem_zip hv).1,if_neg hk]
  simp
 | p::P,w::vs,i+1,m,nd,h1,h2,hk=>by
  show bindC kindOf ((p,w)::P.zip vs) m x=_
  unfold bindC
  exact bindC_get (i:=i) (List.nodup_cons.mp nd).2 (by simpa using h1) (by simpa using h2) hk
noncomputable def start (N:List Str)(vs:List V):St:=vs.map some++List.replicate (N.length - vs.length) none
noncomputable def cxOf (CX:CXT)(P:Program)(w:World)(K:PySem.W.Frag)(mg:Str->Option Value)(base:Heap)(N:List Str)(qual:Str)(scope:Scope)(f:Addr)(cd:Value)(A:Around)(outer:List Env)(s:Shared)(H:Hp)(E:XK):Cx where
 prog:=P
 w:=w
 K:=K
 mg:=mg
 base:=base
 A:=A.deeper (envOfC qual scope s.heap.objs.size f cd)
 N:=N
 s₀:=s
 H₀:=H
 env:=envOfC qual scope s.heap.objs.size f cd
 outer:=outer
 stack:=envOfC qual scope s.heap.objs.size f cd::outer
 ex:=[]
 calm:=true
 fn:=fun _=>true
 pn:=[]
 xe:=fun e s'=>wpAny (model P w) (A.deeper (envOfC qual scope s.heap.objs.size f cd)) (leaving (envOfC qual scope s.heap.objs.size f cd) e) (fun _ s''=>CX outer H s E e s'') (fun e' s''=>CX outer H s E e' s'') s'
theorem cell_has {sc:Scope}{n:Nat}{x:Str}(h:sc.names.lookup x=some .cell):∃ c,(cellsFrom n sc.names []).lookup x=some c:=by
 have q:=PySem.W.cellsFrom_some sc.names n [] (.inl h)
 exact Option.isSome_iff_exists.mp q
theorem inv_start {CX:CXT}{P:Program}{w:World}{K:PySem.W.Frag}{mg:Str->Option Value}{base:Heap}{N ps:List Str}{qual:Str}{scope:Scope}{f:Addr}{cd:Value}{A:Around}{outer:List Env}{s s1:Shared}{H:Hp}{E:XK}{us:List Value}{vs:List V}
  (S:FnScope N ps scope)(hd:A.handled=none)(e0:Env0 P w K mg base A outer s H)(hl:vs.length=ps.length)(r:Vals vs us)
  (x:InCallC s s.heap.objs.size (bindL (envOfC qual scope s.heap.objs.size f cd).kindOf (ps.zip us) fun _=>none) (cellsFrom (s.heap.objs.size+1) scope.names []) (bindC (envOfC qual scope s.heap.objs.size f cd).kindOf (ps.zip us) fun _=>none) s1) :
  Inv (cxOf CX P w K mg base N qual scope f cd A outer s H E) [] (start N vs) H s1:=by
 have hpl:ps.length<=N.length:=by have:=congrArg List.length S.pre;rw [List.length_take] at this;omega
 obtain ⟨h1,tk,rfl,hk⟩:=x.done
 have noA:∀ b:Addr,b∉(cxOf CX P w K mg base N qual scope f cd A outer s H E).ex:=fun b z=>absurd (show b∈([]:List Addr) from z) (by simp)
 refine ⟨⟨e0.mod,S.kind,rfl,rfl,Nat.le_refl _,fun y z c h1 h2=>?_,fun y hy=>?_,fun y c _ h=>?_,fun _=>hd,Around.frames_deeper e0.frames,.inr ⟨rfl,rfl⟩,fun b z=>absurd z (noA b),e0.bs,e0.bsz,fun b _ _=>noA b,fun b z=>absurd z (noA b),e0.funs,e0.frf⟩,
  rfl,e0.bare,Un.kept hk,⟨_,x.toInCall.ns,fun i y v h1 h2 h3=>?_⟩,fun y c h=>⟨_,x.cell y c h⟩,e0.hok.fresh (Nat.le_refl _),fun y c h=>?_,fun p hp=>absurd (show p∈([]:List (Addr×Obj)) from hp) (by simp),e0.hok.kept hk,?_⟩
 ·exact name_of_addr x.apart (PySem.mem_of_lookup h1) (PySem.mem_of_lookup h2)
 ·have hy:scope.names.lookup y=some .cell\/scope.names.lookup y=some .free:=hy
  rcases hy with hy|hy
  ·exact cell_has hy
  ·exact absurd rfl (S.nofree _ (PySem.mem_of_lookup hy))
 ·exact Nat.le_of_lt (x.above y c (PySem.mem_of_lookup h))
 ·have hi:i<vs.length:=by
   unfold start at h2
   by_cases hi:i<vs.length
   ·exact hi
   ·rw [List.getElem?_append_right (by simpa using hi)] at h2
    rw [List.getElem?_replicate] at h2
    split at h2<;>cases h2
  have ha:vs[i]? = some v:=by
   unfold start at h2
   rw [List.getElem?_append_left (by simpa using hi),List.getElem?_map] at h2
   cases e:vs[i]? with
   | none=>rw [e] at h2;cases h2
   | some a=>rw [e] at h2;cases h2;rfl
  obtain ⟨u,hu,rv⟩:=r.get ha
  have hp:ps[i]? = some y:=by
   rw [<- S.pre,List.getElem?_take_of_lt (by omega)];exact h1
  have ndP:ps.Nodup:=by rw [<- S.pre];exact S.nd.sublist (List.take_sublist _ _)
  refine ⟨u,rv,?_⟩
  rcases S.par y (List.mem_of_getElem? hp) with k|k
  ·exact .inl ⟨k,bindL_get ndP hp hu k⟩
  ·obtain ⟨c,e⟩:=cell_has (n:=s.heap.objs.size+1) k
   refine .inr ⟨.inl k,c,e,?_⟩
   have q:=x.cell y c e
   rw [bindC_get ndP hp hu (by show scope.names.lookup y≠_;rw [k];decide)] at q
   exact q
 ·exact e0.hok.fresh (Nat.le_of_lt (x.above y c (PySem.mem_of_lookup h)))
 ·unfold start
  show _=N.length
  rw [List.length_append,Zl,List.length_replicate]
  omega
theorem fn_of {CX:CXT}{P:Program}{w:World}{K:PySem.W.Frag}{mg:Str->Option Value}{base:Heap}{k:Nat}{f:Addr}{name qual:Str}{params:Arguments}{body:List Stmt}{scope:Scope}{dV kV doc pm cdv ct oc:Value}{an od:Option Addr}
  {osl:Array (Option Value)}{N ps:List Str}{sp:Sp}(lk:K.lookup f=some ⟨oc,od,.func (PySem.W.fnOf name qual params body scope dV kV doc pm an cdv ct),osl⟩)(hcd:PySem.W.codeIn K cdv qual=true)(S:FnScope N ps scope)
  (len:∀ vs H Q E,sp vs H Q E->vs.length=ps.length)
  (hbody:∀ (A:Around)(outer:List Env)(s:Shared)(H:Hp)(vs:List V)(Q:VK)(E:XK),Room k (A.deeper (envOfC qual scope s.heap.objs.size f cdv))->sp vs H Q E->
   ∃ t,PSs (cxOf CX P w K mg base N qual scope f cdv A outer s H E) body t/\t { nx:=fun _ H'=>Q .non H',rt:=Q } (start N vs) H) :
  FnOk P w K mg base CX (k+1) f (PySem.W.fnOf name qual params body scope dV kV doc pm an cdv ct) ps sp:=by
 refine ⟨len,fun A outer s H args us vs Q E hr e0 hb r hsp=>?_⟩
 have hl:=len _ _ _ _ hsp
 have KX:K.In s.heap:=e0.mod.kin.keeps fun b o e=>(e0.bs b o e).1
 have lim:s.heap.NoLimit:=e0.mod.nolimit.keeps fun b o e=>(e0.bs b o e).1
 have hkind:∀ y∈ps.zip us,scope.names.lookup y.1=some .local\/(scope.names.lookup y.1=some .cell/\((cellsFrom (s.heap.objs.size+1) scope.names []).lookup y.1).isSome=true):=fun ⟨n,v⟩ hy=>by
  rcases S.par n (List.of_mem_zip hy).1 with q|q
  ·exact .inl q
  ·exact .inr ⟨q,PySem.W.cellsFrom_some _ _ _ (.inl q)⟩
 refine codeAny_call_function hr.depth (KX _ _ lk) rfl S.co S.gen rfl (PySem.W.codeRec_of KX hcd) (hb _ _ _ _ ?_)
 refine wpAny_newFunctionEnv_cells S.kind hkind fun env he s1 x=>?_
 subst he
 refine ⟨lim.keeps x.toInCall.keep,codeAny_func ?_⟩
 obtain ⟨t,ht,hq⟩:=hbody A outer s H vs Q E (hr.deeper _) hsp
 have I:Inv (cxOf CX P w K mg base N qual scope f cdv A outer s H E) [] (start N vs) H s1:=inv_start S hr.hd e0 hl r x
 refine wpAny_mono (ht [] s1 (start N vs) H _ I hq) (fun fl s' hs=>?_) fun e s' hs=>hs
 have fin:∀ {σ':St}{H':Hp}{v:V}{u:Value},Inv (cxOf CX P w K mg base N qual scope f cdv A outer s H E) [] σ' H' s'->RelV v u->Q v H'->CE outer P w H s Q u s':=
  fun {σ' H' v u} J rv q=>⟨v,H',J.os,J.bare,J.base,J.hok,rv,q⟩
 cases fl with
 | ret u=>
  obtain ⟨v,σ',H',J,rv,q⟩:=hs
  exact fin J rv q
 | next=>
  obtain ⟨σ',H',J,q⟩:=hs
  exact fin (v:=V.non) (u:=Value.none) J rfl q
 | brk=>
  obtain ⟨_,_,_,q⟩:=hs
  exact False.elim q
 | cont=>
  obtain ⟨_,_,_,q⟩:=hs
  exact False.elim q
end L2
namespace L2
open PySem PySem.Spec PyProof.Rows
section
variable {X:Cx}{x:Str}{p pos:Pos}{e:Expr}{es:List Expr}{t:TA}{id T:String}{r:List V->Hp->VK->Prop}
noncomputable def tCB (r:List V->Hp->VK->Prop)(t:TA):TE:=fun σ H Q=>t σ H fun vs H1=>r vs H1 Q
theorem pe_callB (hc:CallR X (.builtin id) r)(hg:Gl X x)(hm:X.mg x=none)(hv:bootBuiltins x=some (.builtin id))(ha:PA X (e::es) t)(hn:x ≠ "__name__":=by decide) (hdb:(x == ("__debug__":Str))=false:=by decide)
  (he:starEach (e::es) X.env=(false,eval e X.env)::starEach es X.env:=by rfl)(hpl:(backTo pos (starEach es X.env)).any (·.1)=false:=by rfl):PE X (.Call (.Name x p) (e::es) [] pos) (tCB r t):=by
 intro pins s σ H Q I h
 refine wpAny_Call_Name_kw (ld_blt I hg hm hv ?_ hn hdb)
 exact PyProof.Rows.callWith_builtin1 (thn (ha pos pins s σ H _ I h) fun us s1 ⟨vs,H1,I1,r1,q1⟩=>hc pins s1 σ H1 vs us Q I1 r1 q1) he hpl
theorem pe_callTy (hc:CallR X (.type T) r)(hg:Gl X x)(hm:X.mg x=none)(hv:bootBuiltins x=some (.type T))(ha:PA X (e::es) t)(hn:x ≠ "__name__":=by decide) (hdb:(x == ("__debug__":Str))=false:=by decide)
  (he:starEach (e::es) X.env=(false,eval e X.env)::starEach es X.env:=by rfl)(hpl:(backTo pos (starEach es X.env)).any (·.1)=false:=by rfl):PE X (.Call (.Name x p) (e::es) [] pos) (tCB r t):=by
 intro pins s σ H Q I h
 refine wpAny_Call_Name_kw (ld_blt I hg hm hv ?_ hn hdb)
 exact PyProof.Rows.callWith_type1 (thn (ha pos pins s σ H _ I h) fun us s1 ⟨vs,H1,I1,r1,q1⟩=>hc pins s1 σ H1 vs us Q I1 r1 q1) he hpl
end
end L2
namespace L2
open PySem PySem.Spec PyProof.Rows
section
variable {κ:Type} [DecidableEq κ]
noncomputable def valV (kvs:List (κ×V))(k:κ):Option V:=(kvs.find? fun kv=>decide (kv.1=k)).map (·.2)
noncomputable def putK (kvs:List (κ×V))(k:κ)(v:V):List (κ×V):=
 if (kvs.any fun kv=>decide (kv.1=k))=true then kvs.map (fun kv=>if kv.1=k then (kv.1,v) else kv) else kvs++[(k,v)]
noncomputable def dropK (kvs:List (κ×V))(k:κ):List (κ×V):=kvs.filter fun kv=>decide (kv.1≠k)
theorem valV_pos {p:κ×V}{r:List (κ×V)}{k:κ}(e:p.1=k):valV (p::r) k=some p.2:=by simp [valV,List.find?_cons,e]
theorem valV_neg {p:κ×V}{r:List (κ×V)}{k:κ}(e:¬ p.1=k):valV (p::r) k=valV r k:=by simp [valV,List.find?_cons,e]
theorem valV_any (k:κ):∀ kvs:List (κ×V),(kvs.any fun kv=>decide (kv.1=k))=(valV kvs k).isSome
 | []=>rfl
 | p::r=>by
  rw [List.any_cons]
  by_cases e:p.1=k
  ·simp only [valV_pos e,decide_eq_true e,Bool.true_or,Option.isSome_some]
  ·rw [valV_neg e,decide_eq_false e,Bool.false_or];exact valV_any k r
theorem length_putK (kvs:List (κ×V))(k:κ)(v:V):(putK kvs k v).length<=kvs.length+1:=by
 unfold putK
 split
 ·rw [Zl];omega
 ·rw [List.length_append,List.length_cons,List.length_nil];omega
theorem RelO.isSome_eq {o:Option V}{u:Option Value}(r:RelO o u):o.isSome=u.isSome:=by
 cases o with
 | none=>cases u with
  | none=>rfl
  | some _=>exact (show False from r).elim
 | some _=>cases u with
  | none=>exact (show False from r).elim
  | some _=>rfl
theorem RelO.getD {o:Option V}{u:Option Value}{d:V}{d':Value}(r:RelO o u)(rd:RelV d d'):RelV (o.getD d) (u.getD d'):=by
 cases o with
 | none=>cases u with
  | none=>exact rd
  | some _=>exact (show False from r).elim
 | some _=>cases u with
  | none=>exact (show False from r).elim
  | some _=>exact r
theorem KV.val {kvs:List (κ×V)}{vs:List (κ×Value)}(r:KV kvs vs)(k:κ):RelO (valV kvs k) (valueAt vs k):=by
 unfold KV at r
 induction r with
 | nil=>exact True.intro
 | @cons p q ps qs h t ih=>
  obtain ⟨h1,h2⟩:=h
  by_cases e:p.1=k
  ·have e':q.1=k:=h1.symm.trans e
   have b:valueAt (q::qs) k=some q.2:=by simp [valueAt,List.find?_cons,e']
   rw [valV_pos e,b];exact h2
  ·have e':¬ q.1=k:=fun z=>e (h1.trans z)
   have b:valueAt (q::qs) k=valueAt qs k:=by simp [valueAt,List.find?_cons,e']
   rw [valV_neg e,b];exact ih
theorem KV.any {kvs:List (κ×V)}{vs:List (κ×Value)}(r:KV kvs vs)(k:κ):(kvs.any fun kv=>decide (kv.1=k))=vs.any fun kv=>decide (kv.1=k):=by
 unfold KV at r
 induction r with
 | nil=>rfl
 | cons h t ih=>rw [List.any_cons,List.any_cons,ih,h.1]
theorem KV.repl {kvs:List (κ×V)}{vs:List (κ×Value)}(r:KV kvs vs)(k:κ){y:V}{u:Value}(ry:RelV y u) :
  KV (kvs.map fun kv=>if kv.1=k then (kv.1,y) else kv) (vs.map fun kv=>if kv.1=k then (kv.1,u) else kv):=by
 unfold KV at r ⊢
 induction r with
 | nil=>exact .nil
 | @cons p q ps qs h t ih=>
  rw [List.map_cons,List.map_cons]
  refine .cons ?_ ih
  obtain ⟨h1,h2⟩:=h
  by_cases e:p.1=k
  ·rw [if_pos e,if_pos (h1.symm.trans e)];exact ⟨h1,ry⟩
  ·rw [if_neg e,if_neg (fun z=>e (h1.trans z))];exact ⟨h1,h2⟩
theorem KV.put {kvs:List (κ×V)}{vs:List (κ×Value)}(r:KV kvs vs)(k:κ){y:V}{u:Value}(ry:RelV y u):KV (putK kvs k y) (stored vs k u):=by
 unfold putK stored
 rw [r.any k]
 by_cases e:(vs.any fun kv=>decide (kv.1=k))=true
 ·rw [if_pos e,if_pos e];exact r.repl k ry
 ·rw [if_neg e,if_neg e];exact Paired.snoc r ⟨rfl,ry⟩
theorem KV.drop {kvs:List (κ×V)}{vs:List (κ×Value)}(r:KV kvs vs)(k:κ):KV (dropK kvs k) (without vs k):=by
 unfold KV at r ⊢
 unfold dropK without
 induction r with
 | nil=>exact .nil
 | @cons p q ps qs h t ih=>
  obtain ⟨h1,h2⟩:=h
  rw [List.filter_cons,List.filter_cons]
  by_cases e:p.1=k
  ·have a:¬ decide (p.1≠k)=true:=by simp [e]
   have b:¬ decide (q.1≠k)=true:=by simp [h1.symm.trans e]
   rw [if_neg a,if_neg b];exact ih
  ·have e':¬ q.1=k:=fun z=>e (h1.trans z)
   have a:decide (p.1≠k)=true:=by simp [e]
   have b:decide (q.1≠k)=true:=by simp [e']
   rw [if_pos a,if_pos b];exact .cons ⟨h1,h2⟩ ih
theorem KV.keys {kvs:List (κ×V)}{vs:List (κ×Value)}(r:KV kvs vs):kvs.map (·.1)=vs.map (·.1):=by
 unfold KV at r
 induction r with
 | nil=>rfl
 | cons h t ih=>rw [List.map_cons,List.map_cons,ih,h.1]
theorem KV.length {kvs:List (κ×V)}{vs:List (κ×Value)}(r:KV kvs vs):kvs.length=vs.length:=Paired.length r
end
theorem kV_is {P:Program}{w:World}{k:Key}{u:Value}(r:RelV (kV k) u):(mixKind P w).is k u=true:=by
 cases k with
 | inl i=>obtain ⟨t,e⟩:=(show ∃ t,u=Value.int i t from r);subst e;exact mixKind_int P w i t
 | inr x=>obtain ⟨t,e⟩:=(show ∃ t,u=Value.str x t from r);subst e;exact mixKind_str P w x t
theorem items_are {P:Program}{w:World}:∀ {ks:List Key}{us:List Value},Vals (ks.map kV) us->ItemsAre (mixKind P w) ks us
 | [],_,r=>by rw [List.map_nil] at r;cases r;exact .nil
 | k::ks,_,r=>by
  rw [List.map_cons] at r
  cases r with
  | cons h t=>exact .cons (kV_is h) (items_are t)
noncomputable abbrev KT (H:Hp):List (List Key×V)->List (List Key×Addr×Value)->Prop:=Paired fun p q=>p.1=q.1/\H q.2.1=some (.tup (p.1.map kV))/\RelV p.2 q.2.2
theorem KT.val {H:Hp}{kvs:List (List Key×V)}{xs:List (List Key×Addr×Value)}(r:KT H kvs xs)(k:List Key):RelO (valV kvs k) ((atKey xs k).map (·.2)):=by
 induction r with
 | nil=>exact True.intro
 | @cons p q ps qs h t ih=>
  obtain ⟨h1,_,h2⟩:=h
  by_cases e:p.1=k
  ·have e':q.1=k:=h1.symm.trans e
   have b:atKey (q::qs) k=some q.2:=by simp [atKey,List.find?_cons,e']
   rw [valV_pos e,b];exact h2
  ·have e':¬ q.1=k:=fun z=>e (h1.trans z)
   have b:atKey (q::qs) k=atKey qs k:=by simp [atKey,List.find?_cons,e']
   rw [valV_neg e,b];exact ih
theorem KT.repl {H:Hp}{kvs:List (List Key×V)}{xs:List (List Key×Addr×Value)}(r:KT H kvs xs)(k:List Key){y:V}{u:Value}(ry:RelV y u) :
  KT H (kvs.map fun kv=>if kv.1=k then (kv.1,y) else kv) (xs.map (putAt k u)):=by
 induction r with
 | nil=>exact .nil
 | @cons p q ps qs h t ih=>
  rw [List.map_cons,List.map_cons]
  refine .cons ?_ ih
  obtain ⟨h1,h2,h3⟩:=h
  unfold putAt
  by_cases e:p.1=k
  ·rw [if_pos e,if_pos (h1.symm.trans e)];exact ⟨h1,h2,ry⟩
  ·rw [if_neg e,if_neg (fun z=>e (h1.trans z))];exact ⟨h1,h2,h3⟩
theorem KT.put {H:Hp}{kvs:List (List Key×V)}{xs:List (List Key×Addr×Value)}(r:KT H kvs xs)(k:List Key){b:Addr}{y:V}{u:Value}(hb:H b=some (.tup (k.map kV)))(ry:RelV y u) :
  KT H (putK kvs k y) (storedH xs k b u):=by
 have e:(kvs.any fun kv=>decide (kv.1=k))=(atKey xs k).isSome:=by
  rw [valV_any,(r.val k).isSome_eq,Option.isSome_map]
 unfold putK storedH
 rw [e]
 by_cases q:(atKey xs k).isSome=true
 ·rw [if_pos q,if_pos q];exact r.repl k ry
 ·rw [if_neg q,if_neg q];exact Paired.snoc r ⟨rfl,hb,ry⟩
theorem KT.keeps {H H':Hp}{kvs:List (List Key×V)}{xs:List (List Key×Addr×Value)}(r:KT H kvs xs)(ht:∀ b ys,H b=some (.tup ys)->H' b=some (.tup ys)):KT H' kvs xs:=
 Paired.mapP r fun _ _ z=>⟨z.1,ht _ _ z.2.1,z.2.2⟩
section
variable {P:Program}{w:World}{H:Hp}{h:Heap}{a:Addr}
theorem rd_of {u:HO}(ok:HOk P w H h)(e:Rd H a u):ObjOk P w H h a u:=e.ok ok
theorem dk_rd {kvs:List (Key×V)}(ok:HOk P w H h)(e:Rd H a (.dK kvs)):kvs.length<=sizeLine/\(a == sysModules)=false/\∃ vs,KV kvs vs/\h.DictOf (mixKind P w) a vs:=
 show ObjOk P w H h a (.dK kvs) from rd_of ok e
theorem dk_of {kvs:List (Key×V)}(ok:HOk P w H h)(e:H a=some (.dK kvs)):kvs.length<=sizeLine/\(a == sysModules)=false/\∃ vs,KV kvs vs/\h.DictOf (mixKind P w) a vs:=dk_rd ok (.inl e)
theorem key_of {ks:List Key}(ok:HOk P w H h)(e:H a=some (.tup (ks.map kV))):(tupleKind (mixKind P w)).is h ks a:=by
 obtain ⟨_,its,r,o,h1,h2,n,h3,_⟩:=(show ObjOk P w H h a (.tup (ks.map kV)) from ok a _ e)
 exact ⟨o,its.toArray,n,h1,h2,h3,by simpa using items_are r⟩
theorem dt_rd {kvs:List (List Key×V)}(ok:HOk P w H h)(e:Rd H a (.dT kvs)):kvs.length<=sizeLine/\(a == sysModules)=false /\
  ∃ xs,KT H kvs xs/\h.DictOfH (tupleKind (mixKind P w)) a xs:=by
 obtain ⟨z,y,xs,r,o,es,ep,h1,h2,h3,h4,h5⟩:=(show ObjOk P w H h a (.dT kvs) from rd_of ok e)
 refine ⟨z,y,xs,r,o,es,ep,h1,h2,h3,h4,fun x hx=>?_,h5⟩
 have all:∀ {l:List (List Key×V)}{m:List (List Key×Addr×Value)},KT H l m->∀ x∈m,(tupleKind (mixKind P w)).is h x.1 x.2.1:=by
  intro l m q
  induction q with
  | nil=>intro x hx;exact nomatch hx
  | @cons p q ps qs hq t ih=>
   intro x hx
   rcases List.mem_cons.mp hx with e|hx
   ·subst e
    exact key_of ok (by rw [<- hq.1];exact hq.2.1)
   ·exact ih x hx
 exact all r x hx
theorem dt_of {kvs:List (List Key×V)}(ok:HOk P w H h)(e:H a=some (.dT kvs)):kvs.length<=sizeLine/\(a == sysModules)=false /\
  ∃ xs,KT H kvs xs/\h.DictOfH (tupleKind (mixKind P w)) a xs:=dt_rd ok (.inl e)
end
noncomputable def DGet (H:Hp)(a:Addr)(y:V)(r:Option V):Prop:=
 (∃ kvs k,Rd H a (.dK kvs)/\y=kV k/\r=valV kvs k)\/∃ kvs k b,Rd H a (.dT kvs)/\y=.ref b/\H b=some (.tup (k.map kV))/\r=valV kvs k
noncomputable def DPut (H:Hp)(a:Addr)(y v:V)(H':Hp):Prop:=
 (∃ kvs k,H a=some (.dK kvs)/\y=kV k/\kvs.length<sizeLine/\H'=upd H a (.dK (putK kvs k v))) \/
 ∃ kvs k b,H a=some (.dT kvs)/\y=.ref b/\H b=some (.tup (k.map kV))/\kvs.length<sizeLine/\H'=upd H a (.dT (putK kvs k v))
theorem DGet.k {H:Hp}{a:Addr}{kvs:List (Key×V)}{k:Key}(e:H a=some (.dK kvs)):DGet H a (kV k) (valV kvs k):=.inl ⟨kvs,k,.inl e,rfl,rfl⟩
theorem DGet.t {H:Hp}{a b:Addr}{kvs:List (List Key×V)}{k:List Key}(e:H a=some (.dT kvs))(eb:H b=some (.tup (k.map kV))):DGet H a (.ref b) (valV kvs k):=.inr ⟨kvs,k,b,.inl e,rfl,eb,rfl⟩
theorem DPut.k {H:Hp}{a:Addr}{kvs:List (Key×V)}{k:Key}{v:V}(e:H a=some (.dK kvs))(hl:kvs.length<sizeLine):DPut H a (kV k) v (upd H a (.dK (putK kvs k v))):=.inl ⟨kvs,k,e,rfl,hl,rfl⟩
theorem DPut.t {H:Hp}{a b:Addr}{kvs:List (List Key×V)}{k:List Key}{v:V}(e:H a=some (.dT kvs))(eb:H b=some (.tup (k.map kV)))(hl:kvs.length<sizeLine) :
  DPut H a (.ref b) v (upd H a (.dT (putK kvs k v))):=.inr ⟨kvs,k,b,e,rfl,eb,hl,rfl⟩
section
variable {X:Cx}{pins:List (Addr×Obj)}{σ:St}{H:Hp}{s:Shared}{a:Addr}{y v:V}{u r:Value}{o:Option V}{A:Around}{E:Value->Shared->Prop}
theorem Inv.big (I:Inv X pins σ H s):sysModules<s.heap.objs.size:=by
 have h:mainGlobals<s.heap.objs.size:=(I.mod.glob.keeps I.bk).lt
 exact Nat.lt_trans (by decide) h
theorem d_getItem {Q:Value->Shared->Prop}(hu:A.units+1<cLine)(I:Inv X pins σ H s)(g:DGet H a y (some v))(ry:RelV y u)(h:∀ w' s',Inv X pins σ H s'->RelV v w'->Q w' s') :
  wpAny (model X.prog X.w) A (getItem (.ref a) u) Q E s:=by
 rcases g with ⟨kvs,k,e,ey,l⟩|⟨kvs,k,b,e,ey,eb,l⟩
 ·subst ey
  obtain ⟨z,hd,vs,rel,dd⟩:=dk_rd I.hok e
  obtain ⟨w',hw,rw'⟩:=RelO.some_of (v:=v) (o:=valueAt vs k) (by rw [l];exact rel.val k)
  exact wpAny_getItem_of (kV_is ry) dd.mapOf hw (h w' _ (I.tok _) rw')
 ·subst ey
  cases (show u=Value.ref b from ry)
  obtain ⟨z,hd,xs,rel,dd⟩:=dt_rd I.hok e
  obtain ⟨w',hw,rw'⟩:=RelO.some_of (v:=v) (o:=(atKey xs k).map (·.2)) (by rw [l];exact rel.val k)
  obtain ⟨p,hp,hp2⟩:=Zm.mp hw
  refine wpAny_getItem_heap (tupleKind_room_in1 hu) (key_of I.hok eb) dd hp ?_
  rw [hp2]
  exact h w' _ (I.tok _) rw'
theorem d_write {h':Heap}{t':Nat}{ob:HO}(I:Inv X pins σ H s)(mu:Mut (H a))(hs:Heap.SameBut a s.heap h')(he:∃ q,h'.get? a=some q)(new:ObjOk X.prog X.w (upd H a ob) h' a ob) :
  Inv X pins σ (upd H a ob) { s with heap:=h',toks:=t' }:=
 I.write (x:=a) (e:=a) mu (.inl rfl) (fun b q hb z=>(hs.2 b hb).trans z) he new
theorem dk_new {P:Program}{w:World}{H':Hp}{h':Heap}{kvs:List (Key×V)}{vs:List (Key×Value)}(z:kvs.length<=sizeLine)(hd:(a == sysModules)=false)(rel:KV kvs vs)(dd:h'.DictOf (mixKind P w) a vs) :
  ObjOk P w H' h' a (.dK kvs):=⟨z,hd,vs,rel,dd⟩
theorem d_setItem {H':Hp}{Q:Unit->Shared->Prop}(hu:A.units+1<cLine)(I:Inv X pins σ H s)(g:DPut H a y v H')(ry:RelV y u)(rv:RelV v r)(h:∀ s',Inv X pins σ H' s'->Q () s') :
  wpAny (model X.prog X.w) A (setItem (.ref a) u r) Q E s:=by
 rcases g with ⟨kvs,k,e,ey,l,eH⟩|⟨kvs,k,b,e,ey,eb,l,eH⟩
 ·subst ey eH
  obtain ⟨z,hd,vs,rel,dd⟩:=dk_of I.hok e
  have hz:vs.length<=sizeLine:=by rw [<- rel.length];exact z
  have hl:(putK kvs k v).length<=sizeLine:=by have:=length_putK kvs k v;omega
  refine wpAny_setItem_pairs (hsz:=hz) (kV_is ry) dd fun h' dd' hs=>h _ ?_
  have he:∃ q,h'.get? a=some q:=let ⟨q,_,_,hq,_⟩:=dd';⟨q,hq⟩
  exact d_write I (by rw [e];exact True.intro) hs he (dk_new hl hd (rel.put k rv) dd')
 ·subst ey eH
  cases (show u=Value.ref b from ry)
  obtain ⟨z,hd,xs,rel,dd⟩:=dt_of I.hok e
  have hz:xs.length<=sizeLine:=by rw [<- Paired.length rel];exact z
  have hl:(putK kvs k v).length<=sizeLine:=by have:=length_putK kvs k v;omega
  refine wpAny_setItem_heap (hsz:=hz) (tupleKind_room_in1 hu) (key_of I.hok eb) dd fun h' dd' hs=>h _ ?_
  obtain ⟨q,es,ep,hq,h2,h3,h4,_,h5⟩:=dd'
  refine d_write I (by rw [e];exact True.intro) hs ⟨q,hq⟩ ⟨hl,hd,_,(rel.put k eb rv).keeps fun c ys ec=>?_,q,es,ep,hq,h2,h3,h4,h5⟩
  rw [upd_ne (ne_of ec e (fun z=>nomatch z))]
  exact ec
end
section
variable {X:Cx}{pins:List (Addr×Obj)}{σ:St}{H:Hp}{s:Shared}{a:Addr}{kvs:List (Key×V)}{k:Key}{u:Value}{A:Around}{E:Value->Shared->Prop}
theorem d_len {Q:Value->Shared->Prop}(I:Inv X pins σ H s)(e:Rd H a (.dK kvs))(h:∀ t s',Inv X pins σ H s'->Q (.int kvs.length t) s'):wpAny (model X.prog X.w) A (call (.builtin "len") [.ref a]) Q E s:=by
 obtain ⟨z,hd,vs,rel,dd⟩:=dk_rd I.hok e
 refine call_len_dict hd dd (by rw [<- rel.length];rw [sizeLine_eq] at z;omega) ?_
 rw [<- rel.length]
 exact h _ _ (I.tok _)
end
noncomputable def NoSl (i:Expr):Prop:=∀ ov iv,subscripted i false ov iv=operate [ov,iv] (getItem ov iv)
theorem subD_of {prog:Program}{w:World}{A:Around}{E:Value->Shared->Prop}{s:Shared}{env:Env}{value slice:Expr}{pos:Pos}{T id:String}{Q:Value->Shared->Prop}
  (hl:typeLookup (.type T) "__getitem__" = pure (some (.builtin id))) (hs:NoSl slice)
  (h:wpAny (model prog w) A (eval value env) (fun o s₁=>wpAny (model prog w) A (eval slice env) (fun i s₂=>s₂.TypeIs o T/\wpAny (model prog w) A (getItem o i) Q E s₂) E s₁) E s) :
  wpAny (model prog w) A (eval (.Subscript value slice pos) env) Q E s:=by
 refine Subscript_ (wpAny_mono h (fun o s₁ h₁=>wpAny_mono h₁ (fun i s₂ h₂=>?_) fun _ _ x=>x) fun _ _ x=>x)
 obtain ⟨hT,h₂⟩:=h₂
 unfold subscriptTail
 refine wpAny_bind ?_
 rw [getitemInPython_of_ne hT.not_modules]
 refine wpAny_bind (wpAny_specialOf hT hl ?_)
 have fin:wpAny (model prog w) A (subscripted slice false o i) (fun r s₃=>wpAny (model prog w) A (letTemporaryGo value o r >>= fun _=>pure r) Q E s₃) E s₂:=by
  rw [hs o i]
  exact wpAny_operating (wpAny_mono h₂ (fun r s₃ h₃=>wpAny_bind (wpAny_letTemporaryGo (wpAny_pure h₃))) fun _ _ x=>x)
 first
  | exact wpAny_pure (wpAny_bind fin)
  | exact wpAny_bind (wpAny_pure (wpAny_bind fin))
  | exact wpAny_bind fin
theorem dict_typeIs {X:Cx}{pins:List (Addr×Obj)}{σ:St}{H:Hp}{s:Shared}{a:Addr}{y:V}{o:Option V}(I:Inv X pins σ H s)(g:DGet H a y o):s.TypeIs (.ref a) "dict":=by
 rcases g with ⟨kvs,k,e,_,_⟩|⟨kvs,k,b,e,_,_,_⟩
 ·obtain ⟨_,_,vs,_,dd⟩:=dk_rd I.hok e
  exact dd.typeIs
 ·obtain ⟨_,_,xs,_,dd⟩:=dt_rd I.hok e
  exact dd.typeIs
noncomputable def tDGet (td ty:TE):TE:=fun σ H Q=>td σ H fun x H1=>ty σ H1 fun y H2=>∃ a v,x=.ref a/\DGet H2 a y (some v)/\Q v H2
noncomputable def sDPut (td ty tv:TE):TS:=fun D σ H=>tv σ H fun v H1=>td σ H1 fun x H2=>ty σ H2 fun y H3=>∃ a H4,x=.ref a/\DPut H3 a y v H4/\D.nx σ H4
section
variable {X:Cx}{o i e value:Expr}{pos pos' tpos:Pos}{td ty tv:TE}
theorem pe_dget (hu:X.A.units+1<cLine)(ho:PE X o td)(hi:PE X i ty)(hs:NoSl i):PE X (.Subscript o i pos) (tDGet td ty):=by
 intro pins s σ H Q I h
 refine subD_of PySem.F.slot_dict_getitem.lookup hs (thn (ho pins s σ H _ I h) fun u s1 ⟨x,H1,I1,rx,q1⟩=>thn (hi pins s1 σ H1 _ I1 q1) fun iv s2 ⟨y,H2,I2,ry,a,v,ex,g,q2⟩=>?_)
 subst ex
 obtain rfl:u=Value.ref a:=rx
 exact ⟨dict_typeIs I2 g,d_getItem hu I2 g ry fun w' s3 I3 rw'=>⟨v,H2,I3,rw',q2⟩⟩
theorem ps_dput (hu:X.A.units+1<cLine)(ho:PE X o td)(hi:PE X i ty)(hv:PE X value tv)(hs:swapsWith value (some (.Subscript o i pos')) pos.line X.env=pure false) :
  PS X (.Assign [.Subscript o i pos'] value pos) (sDPut td ty tv):=by
 intro pins s σ H D I h
 refine wpAny_Assign_Subscript (thn (hv pins s σ H _ I h) fun r s1 ⟨v,H1,I1,rv,q1⟩=>thn (ho pins s1 σ H1 _ I1 q1) fun u s2 ⟨x,H2,I2,rx,q2⟩=>thn (hi pins s2 σ H2 _ I2 q2) fun iv s3 ⟨y,H3,I3,ry,a,H4,ex,g,q3⟩=>?_) hs
 subst ex
 obtain rfl:u=Value.ref a:=rx
 exact d_setItem hu I3 g ry rv fun s4 I4=>⟨σ,H4,I4,q3⟩
end
section
variable {X:Cx}{pos:Pos}
end
noncomputable def tPairs:List (TE×TE)->St->Hp->(List (V×V)->Hp->Prop)->Prop
 | [],_,H,Q=>Q [] H
 | (tk,tv)::r,σ,H,Q=>tk σ H fun x H1=>tv σ H1 fun y H2=>tPairs r σ H2 fun ps H3=>Q ((x,y)::ps) H3
noncomputable abbrev VV:List (V×V)->List (Value×Value)->Prop:=Paired fun p q=>RelV p.1 q.1/\RelV p.2 q.2
noncomputable def PPs (X:Cx)(pos:Pos)(keys:List (Option Expr))(values:List Expr)(trs:List (TE×TE)):Prop:=
 ∀ (pins:List (Addr×Obj))(s:Shared)(σ:St)(H:Hp)(Q:List (V×V)->Hp->Prop),Inv X pins σ H s->tPairs trs σ H Q->
  wpAny (model X.prog X.w) X.A (evalPairs (pairTrees keys values X.env pos)) (fun vs s'=>∃ ps H',Inv X pins σ H' s'/\VV ps vs/\Q ps H') X.xe s
structure M1 (X:Cx)(o:Expr)(m:Str)(apos:Pos)(e:Expr)(cpos:Pos):Prop where
 base:attributeBase o m X.env (eval o X.env)=eval o X.env
 few:((backTo cpos (starEach [e] X.env)).all (fun x=>!x.1)&&(backToKw cpos (keywordEach [] X.env)).all (fun x=>x.1.isSome)
  && decide (([e]:List Expr).length+([]:List Keyword).length+(if ([]:List Keyword).isEmpty then 0 else 1)<30))=true
 line:(apos.endLine == cpos.line)=true
 trees:backTo cpos (starEach [e] X.env)=[(false,eval e X.env)]
structure M2 (X:Cx)(o:Expr)(m:Str)(apos:Pos)(e f:Expr)(cpos:Pos):Prop where
 base:attributeBase o m X.env (eval o X.env)=eval o X.env
 few:((backTo cpos (starEach [e,f] X.env)).all (fun x=>!x.1)&&(backToKw cpos (keywordEach [] X.env)).all (fun x=>x.1.isSome)
  && decide (([e,f]:List Expr).length+([]:List Keyword).length+(if ([]:List Keyword).isEmpty then 0 else 1)<30))=true
 line:(apos.endLine == cpos.line)=true
 trees:backTo cpos (starEach [e,f] X.env)=[(false,eval e X.env),(false,eval f X.env)]
noncomputable def IsD (H:Hp)(a:Addr):Prop:=(∃ kvs,Rd H a (.dK kvs))\/∃ kvs,Rd H a (.dT kvs)
section
variable {X:Cx}{pins:List (Addr×Obj)}{σ:St}{H:Hp}{s:Shared}{a:Addr}{y d:V}{u r:Value}{o:Option V}{A:Around}{E:Value->Shared->Prop}
end
section
variable {X:Cx}{o e f:Expr}{apos cpos:Pos}{td ty tx:TE}
end
section
variable {X:Cx}{pins:List (Addr×Obj)}{σ:St}{H:Hp}{s:Shared}{a:Addr}{kvs:List (Key×V)}{A:Around}{E:Value->Shared->Prop}
end
section
variable {X:Cx}{pins:List (Addr×Obj)}{σ:St}{H:Hp}{s:Shared}{a:Addr}{y:V}{u:Value}{A:Around}{E:Value->Shared->Prop}
end
end L2
namespace HT
open PySem PyProof.Rows
noncomputable def lexLt:List Int->List Int->Bool
 | [],[]=>false
 | [],_::_=>true
 | _::_,[]=>false
 | x::xs,y::ys=>if x=y then lexLt xs ys else decide (x<y)
theorem lexLt_cons (x y:Int)(xs ys:List Int):lexLt (x::xs) (y::ys)=if x=y then lexLt xs ys else decide (x<y):=rfl
theorem lexLt_nil_nil:lexLt [] []=false:=rfl
theorem lexLt_nil_cons (y:Int)(ys:List Int):lexLt [] (y::ys)=true:=rfl
theorem lexLt_cons_nil (x:Int)(xs:List Int):lexLt (x::xs) []=false:=rfl
theorem eqAt_int (A:Around)(s:Shared)(a:Int)(t:Tok)(c:Int)(u:Tok):∃ e,SeqAt.EqAt A s (.int a t) (.int c u) e/\(e=true↔a=c):=
 ⟨(a == c),SeqAt.EqAt.int_int a t c u,by simp⟩
theorem rcLt_int (A:Around)(s:Shared)(a:Int)(t:Tok)(c:Int)(u:Tok)(prog:Program)(w:World)(E:Value->Shared->Prop)(Q:Value->Shared->Prop)(h:Q (.bool (decide (a<c))) s) :
  wpAny (model prog w) A (richCompare .Lt (.int a t) (.int c u)) Q E s:=
 (PyProof.Rows.lt_int h:wpAny (model prog w) A (compareOp .Lt (.int a t) (.int c u)) Q E s)
section
open PySem.SeqAt
open PySem.AutoSeq1 (wpAny_loadPart')
open PySem.MeetsSeq PySem.MeetsSeq2 PySem.MeetsSeq3
theorem tuple_lt_ints (l b:Addr)(items items2:Array Value)(n n2:Nat)(dd dd2:Option Addr)(sl sl2:Array (Option Value))(ns ms:List Int)(hi:IntsAre items.toList ns)(hj:IntsAre items2.toList ms) :
  Meets (Builtin.«tuple.__lt__» ⟨[.ref l,.ref b],[]⟩)
   (fun _ R s=>s.heap.get? l=some { cls:=.type "tuple",dict:=dd,data:=.seq items n,slots:=sl }/\s.heap.get? b=some { cls:=.type "tuple",dict:=dd2,data:=.seq items2 n2,slots:=sl2 } /\
    R (.ok (.ret (.bool (lexLt ns ms)))) s):=
 .of_wp fun prog w A R s h=>by
  obtain ⟨hp,g,d,tk,os⟩:=s;obtain ⟨hl,hb,h⟩:=h
  have f2:=AutoSeq1.sub_tuple_tuple
  have z1:items.size=ns.length:=by rw [<- hi.length];simp
  have z2:items2.size=ms.length:=by rw [<- hj.length];simp
  wp_walk using wpAny_loadPart' hl,wpAny_loadPart' hb,wpAny_forIn_list _ (fun rest b s'=>b.1=none/\s'=⟨hp,g,d,tk,os⟩/\∃ (vs ws:List Value)(ns' ms':List Int),rest=vs.zip ws /\
   IntsAre vs ns'/\IntsAre ws ms'/\ns'.length+items2.size=ms'.length+items.size/\R (.ok (.ret (.bool (lexLt ns' ms')))) ⟨hp,g,d,tk,os⟩) _
  case turn=>
   rintro ⟨y,x⟩ rest b s' ⟨hb',rfl,vs,ws,ns',ms',hz,hvi,hwi,hlen,hR⟩
   cases hvi with
   | nil=>rw [List.zip_nil_left] at hz;cases hz
   | cons a t hvi'=>
    cases hwi with
    | nil=>rw [List.zip_nil_right] at hz;cases hz
    | cons c u hwi'=>
     rw [List.zip_cons_cons] at hz
     injection hz with hyx hrest
     injection hyx with hy hx
     subst hy hx
     rw [lexLt_cons] at hR
     simp only [List.length_cons] at hlen
     obtain ⟨e,he,hiff⟩:=eqAt_int A.in1 ⟨hp,g,d,tk,os⟩ a t c u
     refine wpAny_bind (he prog w _ _ ?_)
     cases e with
     | true=>
      rw [if_pos (hiff.mp rfl)] at hR
      wp_walk
      exact ⟨rfl,rfl,_,_,_,_,hrest,hvi',hwi',by omega,hR⟩
     | false=>
      rw [if_neg (fun q=>absurd (hiff.mpr q) Bool.false_ne_true)] at hR
      have hri:=rcLt_int A.in1 ⟨hp,g,d,tk,os⟩ a t c u prog w
      wp_walk using hri
      exact ⟨_,rfl,by simpa using hR⟩
  case fin=>
   rintro ⟨b1,b2⟩ s' ⟨hb',rfl,vs,ws,ns',ms',hz,hvi,hwi,hlen,hR⟩
   simp only at hb'
   subst hb'
   have hv:lexLt ns' ms'=decide (items.size<items2.size):=by
    cases hvi with
    | nil=>
     cases hwi with
     | nil=>
      simp only [List.length_nil] at hlen
      rw [lexLt_nil_nil]
      exact (decide_eq_false (by omega)).symm
     | cons c u hw=>
      simp only [List.length_nil,List.length_cons] at hlen
      rw [lexLt_nil_cons]
      exact (decide_eq_true (by omega)).symm
    | cons a t hv=>
     cases hwi with
     | nil=>
      simp only [List.length_nil,List.length_cons] at hlen
      rw [lexLt_cons_nil]
      exact (decide_eq_false (by omega)).symm
     | cons c u hw=>
      rw [List.zip_cons_cons] at hz
      cases hz
   rw [hv] at hR
   wp_walk
   exact ⟨_,rfl,by simpa [Builtin.Tuple.tupleCompareSizes] using hR⟩
  case h=>
   exact ⟨rfl,rfl,items.toList,items2.toList,ns,ms,rfl,hi,hj,by omega,h⟩
end
section
variable {prog:Program}{w:World}{A:Around}{E:Value->Shared->Prop}{s:Shared}
theorem lt_tupInts {l b:Addr}{items items2:Array Value}{ns ms:List Int}{Q:Value->Shared->Prop}(hl:IsTup s.heap l items)(hb:IsTup s.heap b items2)(hi:IntsAre items.toList ns)(hj:IntsAre items2.toList ms)
  (hu:A.units<cLine)(h:Q (.bool (lexLt ns ms)) s):wpAny (model prog w) A (compareOp .Lt (.ref l) (.ref b)) Q E s:=by
 obtain ⟨⟨cls,dd,data,sl⟩,ho,hc,n,hd⟩:=id hl
 obtain ⟨⟨cls2,dd2,data2,sl2⟩,ho2,hc2,n2,hd2⟩:=id hb
 simp only at hc hd hc2 hd2
 subst hc hd hc2 hd2
 exact richCompare_meets_room (op:=.Lt) ⟨_,ho,rfl⟩ ⟨_,ho2,rfl⟩ PySem.F.slot_tuple_lt PySem.F.entry_tuple_lt (PySem.F.args_tuple_lt_2 _ _) (tuple_lt_ints l b items items2 n n2 dd dd2 sl sl2 ns ms hi hj)
  ⟨ho,ho2,show Value.bool (lexLt ns ms)≠Value.notImplemented/\Q (.bool (lexLt ns ms)) s from ⟨(fun x=>nomatch x),h⟩⟩ hu
noncomputable def sIx (n d:Nat):Option Int->Nat
 | none=>d
 | some v=>if v<0 then (v+(n:Int)).toNat else min v.toNat n
theorem sIx_none (n d:Nat):sIx n d none=d:=rfl
theorem sIx_nat (n d k:Nat):sIx n d (some (k:Int))=min k n:=by
 show (if (k:Int)<0 then ((k:Int)+(n:Int)).toNat else min (k:Int).toNat n)=min k n
 rw [if_neg (by omega),Int.toNat_natCast]
end
end HT
namespace L2
open PySem PySem.Spec PyProof.Rows
noncomputable abbrev TO:=St->Hp->(Option Int->Hp->Prop)->Prop
noncomputable def PO (X:Cx)(e:Option Expr)(t:TO):Prop:=
 ∀ (pins:List (Addr×Obj))(s:Shared)(σ:St)(H:Hp)(Q:Option Int->Hp->Prop),Inv X pins σ H s->t σ H Q->
  wpAny (model X.prog X.w) X.A (evalPart e X.env) (fun u s'=>∃ o H',Inv X pins σ H' s'/\IsPart u o/\Q o H') X.xe s
noncomputable def tNoPart:TO:=fun _ H Q=>Q none H
noncomputable def tPart (t:TE):TO:=fun σ H Q=>t σ H fun x H1=>∃ i,x=.int i/\Q (some i) H1
theorem intsAre_of {ns:List Int}:∀ {us:List Value},Vals (ns.map V.int) us->IntsAre us ns:=by
 induction ns with
 | nil=>intro us r;rw [List.map_nil] at r;cases r;exact .nil
 | cons n ns ih=>
  intro us r
  rw [List.map_cons] at r
  cases r with
  | cons r1 r2=>
   obtain ⟨t,e⟩:=r1
   subst e
   exact .cons n t (ih r2)
section
variable {X:Cx}{e:Expr}{te:TE}{lo hi:Option Expr}{tl th:TO}{pos p2:Pos}
theorem po_none:PO X none tNoPart:=by
 intro pins s σ H Q I h
 rw [evalPart_none]
 exact wpAny_pure ⟨none,H,I,.none,h⟩
theorem po_some (h:PE X e te):PO X (some e) (tPart te):=by
 intro pins s σ H Q I hw
 rw [evalPart_some]
 refine thn (h pins s σ H _ I hw) fun u s1 ⟨x,H1,I1,r1,q1⟩=>?_
 obtain ⟨i,rfl,q⟩:=q1
 obtain ⟨t,rfl⟩:=r1
 exact ⟨some i,H1,I1,.int i t,q⟩
noncomputable def SlR (X:Cx)(r:V->Option Int->Option Int->Hp->VK->Prop):Prop:=
 ∀ (pins:List (Addr×Obj))(s:Shared)(σ:St)(H:Hp)(x:V)(v vl vu:Value)(lo hi:Option Int)(sl:Addr)(Q:VK),Inv X pins σ H s->RelV x v->s.heap.IsSliceOf sl vl vu .none->IsPart vl lo->IsPart vu hi->r x lo hi H Q->
  ∃ T id,typeLookup (.type T) "__getitem__" = pure (some (.builtin id))/\s.TypeIs v T/\wpAny (model X.prog X.w) X.A (getItem v (.ref sl)) (EP X pins σ Q) X.xe s
theorem SlR.or {r r':V->Option Int->Option Int->Hp->VK->Prop}(h:SlR X r)(h':SlR X r'):SlR X (fun x lo hi H Q=>r x lo hi H Q\/r' x lo hi H Q):=by
 intro pins s σ H x v vl vu lo hi sl Q I rx hs pl pu q
 rcases q with q|q
 ·exact h pins s σ H x v vl vu lo hi sl Q I rx hs pl pu q
 ·exact h' pins s σ H x v vl vu lo hi sl Q I rx hs pl pu q
noncomputable def tSl (r:V->Option Int->Option Int->Hp->VK->Prop)(te:TE)(tl th:TO):TE:=fun σ H Q=>te σ H fun x H1=>tl σ H1 fun l H2=>th σ H2 fun u H3=>r x l u H3 Q
theorem pe_slice {r:V->Option Int->Option Int->Hp->VK->Prop}(hr:SlR X r)(he:PE X e te)(hl:PO X lo tl)(hu:PO X hi th):PE X (.Subscript e (.Slice lo hi none p2) pos) (tSl r te tl th):=by
 intro pins s σ H Q I h
 refine Subscript_ (thn (he pins s σ H _ I h) fun v s1 ⟨x,H1,I1,r1,q1⟩=>?_)
 refine wpAny_Slice (thn (hl pins s1 σ H1 _ I1 q1) fun vl s2 ⟨l,H2,I2,pl,q2⟩=>thn (hu pins s2 σ H2 _ I2 q2) fun vu s3 ⟨u,H3,I3,pu,q3⟩=>?_)
 rw [evalPart_none]
 refine wpAny_pure ?_
 have I4:Inv X pins σ H3 { s3 with heap:=s3.heap.push { cls:=.type "slice",data:=.fields #[vl,vu,.none] } }:=I3.kept (t':=s3.toks) fun b ob q=>Heap.get?_push_of_some _ q
 obtain ⟨T,id,hT,ht,hg⟩:=hr pins { s3 with heap:=s3.heap.push { cls:=.type "slice",data:=.fields #[vl,vu,.none] } } σ H3 x v vl vu l u s3.heap.objs.size Q I4 r1 (Heap.IsSliceOf.new ..) pl pu q3
 show wpAny (model X.prog X.w) X.A (subscriptTail e (.Slice lo hi none p2) v (.ref s3.heap.objs.size)) (EP X pins σ Q) X.xe { s3 with heap:=s3.heap.push { cls:=.type "slice",data:=.fields #[vl,vu,.none] } }
 exact tail_any (ops:=[.ref s3.heap.objs.size,v]) ht hT hg (by with_unfolding_all rfl)
noncomputable def cutV (xs:List V)(lo hi:Option Int):List V:=(xs.drop (HT.sIx xs.length 0 lo)).take (HT.sIx xs.length xs.length hi - HT.sIx xs.length 0 lo)
theorem cutV_length (xs:List V)(lo hi:Option Int):(cutV xs lo hi).length<=xs.length:=by
 unfold cutV
 rw [List.length_take,List.length_drop]
 omega
end
end L2
namespace L2
open PySem PySem.Spec PyProof.Rows
noncomputable def ixN (n:Nat)(i:Int):Option Nat:=if 0<=i then (if i<n then some i.toNat else none) else if -(n:Int)<=i then some (i+n).toNat else none
noncomputable def atI {α:Type}(xs:List α)(i:Int):Option α:=(ixN xs.length i).bind fun j=>xs[j]?
theorem ixN_seq {n:Nat}{i:Int}{j:Nat}(h:ixN n i=some j):seqIndex? i n=some j/\j<n/\-(n:Int)<=i/\i<n:=by
 unfold ixN at h
 by_cases h0:0<=i
 ·rw [if_pos h0] at h
  by_cases h1:i<n
  ·rw [if_pos h1] at h
   have e:i.toNat=j:=Option.some.inj h
   exact ⟨by rw [seqIndex_of h0 h1,e],by omega,by omega,h1⟩
  ·rw [if_neg h1] at h;cases h
 ·rw [if_neg h0] at h
  by_cases h1:-(n:Int)<=i
  ·rw [if_pos h1] at h
   have e:(i+n).toNat=j:=Option.some.inj h
   exact ⟨by rw [seqIndex_neg (by omega) h1,e],by omega,h1,by omega⟩
  ·rw [if_neg h1] at h;cases h
theorem atI_get {α:Type}{xs:List α}{i:Int}{v:α}(h:atI xs i=some v):∃ j,seqIndex? i xs.length=some j/\xs[j]? = some v/\j<xs.length/\-(xs.length:Int)<=i/\i<xs.length:=by
 unfold atI at h
 cases e:ixN xs.length i with
 | none=>rw [e] at h;cases h
 | some j=>
  rw [e] at h
  obtain ⟨h1,h2,h3,h4⟩:=ixN_seq e
  exact ⟨j,h1,h,h2,h3,h4⟩
noncomputable def PlainIx (b:Expr):Prop:=∀ o i,subscripted b false o i=operate [o,i] (getItem o i)
noncomputable def IxR (X:Cx)(r:R2):Prop:=
 ∀ (value slice:Expr)(pins:List (Addr×Obj))(s:Shared)(σ:St)(H:Hp)(x y:V)(v u:Value)(Q:VK),Inv X pins σ H s->RelV x v->RelV y u->r x y H Q->
  subscripted slice false v u=operate [v,u] (getItem v u)->wpAny (model X.prog X.w) X.A (subscriptTail value slice v u) (EP X pins σ Q) X.xe s
noncomputable def MtR (X:Cx)(id:String)(r:V->List V->Hp->VK->Prop):Prop:=
 ∀ (pins:List (Addr×Obj))(s:Shared)(σ:St)(H:Hp)(x:V)(xs:List V)(v:Value)(us:List Value)(Q:VK),Inv X pins σ H s->RelV x v->Vals xs us->r x xs H Q->
  wpAny (model X.prog X.w) X.A (call (.builtin id) (v::us)) (EP X pins σ Q) X.xe s
section
variable {X:Cx}{a b:Expr}{ta tb:TE}{pos:Pos}
theorem IxR.or {r r':R2}(h:IxR X r)(h':IxR X r'):IxR X (fun x y H Q=>r x y H Q\/r' x y H Q):=by
 intro value slice pins s σ H x y v u Q I rx ry q hs
 rcases q with q|q
 ·exact h value slice pins s σ H x y v u Q I rx ry q hs
 ·exact h' value slice pins s σ H x y v u Q I rx ry q hs
theorem MtR.or {id:String}{r r':V->List V->Hp->VK->Prop}(h:MtR X id r)(h':MtR X id r'):MtR X id (fun x xs H Q=>r x xs H Q\/r' x xs H Q):=by
 intro pins s σ H x xs v us Q I rx rs q
 rcases q with q|q
 ·exact h pins s σ H x xs v us Q I rx rs q
 ·exact h' pins s σ H x xs v us Q I rx rs q
theorem pe_ix {r:R2}(hr:IxR X r)(ha:PE X a ta)(hb:PE X b tb)(hs:PlainIx b):PE X (.Subscript a b pos) (tOp r ta tb):=by
 intro pins s σ H Q I h
 exact Subscript_ (binT ha hb I h fun v u s2 x y H2 I2 rx ry q=>hr a b pins s2 σ H2 x y v u Q I2 rx ry q (hs _ _))
noncomputable def rIxL (K:PySem.W.Frag):R2:=fun x y H Q=>∃ p xs i v,x=.ref p/\y=.int i/\SqL K H p xs/\atI xs i=some v/\Q v H
noncomputable def rIxT (K:PySem.W.Frag):R2:=fun x y H Q=>∃ p xs i v,x=.ref p/\y=.int i/\SqT K H p xs/\atI xs i=some v/\Q v H
noncomputable def rIxS:R2:=fun x y H Q=>∃ z i c,x=.str z/\y=.int i/\z.length<=sizeLine/\atI z.cps.toList i=some c/\Q (.str ⟨#[c]⟩) H
theorem ix_list:IxR X (rIxL X.K):=by
 intro value slice pins s σ H x y v u Q I rx ry h hs
 obtain ⟨p,xs,i,z,rfl,rfl,hq,he,q⟩:=h
 cases rx
 obtain ⟨t,rfl⟩:=ry
 obtain ⟨its,r,pl,hz⟩:=I.list hq
 obtain ⟨j,h1,h2,h3,h4,h5⟩:=atI_get he
 obtain ⟨w,ew,rw'⟩:=r.get h2
 have hl:=r.length
 have hn:=line63
 have fin:EP X pins σ Q w s:=⟨z,H,I,rw',q⟩
 by_cases h0:0<=i
 ·have hj:i.toNat=j:=by
   rw [seqIndex_of h0 h5] at h1
   exact Option.some.inj h1
  exact item_listR pl.isList h0 (by omega) (by rw [hj];simpa using ew) fin hs
 ·have hj:(i+(its.toArray.size:Int)).toNat=j:=by
   rw [seqIndex_neg (by omega) h4] at h1
   rw [List.size_toArray,<- hl]
   exact Option.some.inj h1
  exact subscriptTail_builtinR (x:=w) pl.isList.typeIs slot_list_getitem.lookup
   (wpAny_getItem_list_neg (Q:=fun r s'=>r=w/\EP X pins σ Q r s') pl.isList (by omega) (by rw [List.size_toArray]<;>omega) (by omega) (by rw [hj];simpa using ew) ⟨rfl,fin⟩) hs
theorem ix_tup:IxR X (rIxT X.K):=by
 intro value slice pins s σ H x y v u Q I rx ry h hs
 obtain ⟨p,xs,i,z,rfl,rfl,hq,he,q⟩:=h
 cases rx
 obtain ⟨t,rfl⟩:=ry
 obtain ⟨its,r,pl,hz⟩:=I.tuple hq
 obtain ⟨j,h1,h2,h3,h4,h5⟩:=atI_get he
 obtain ⟨w,ew,rw'⟩:=r.get h2
 have hl:=r.length
 have hn:=line63
 have fin:EP X pins σ Q w s:=⟨z,H,I,rw',q⟩
 exact subscriptTail_builtinR (x:=w) pl.typeIs slot_tuple_getitem.lookup
  (getItem_tuple (j:=j) (Q:=fun r s'=>r=w/\EP X pins σ Q r s') pl (by omega) (by omega) (by rw [List.size_toArray,<- hl];exact h1) (by simpa using ew) ⟨rfl,fin⟩) hs
theorem ix_str:IxR X rIxS:=by
 intro value slice pins s σ H x y v u Q I rx ry h hs
 obtain ⟨z,i,c,rfl,rfl,hz,he,q⟩:=h
 obtain ⟨t,rfl⟩:=rx
 obtain ⟨t',rfl⟩:=ry
 obtain ⟨j,h1,h2,h3,h4,h5⟩:=atI_get he
 have hl:z.cps.toList.length=z.length:=by simp [Str.length]
 rw [hl] at h1 h4 h5
 have hn:=line63
 exact tail_any (typeIs_str s z t) slot_str_getitem.lookup (getItem_str (c:=c) (by
  have e1:decide (i < -(2 ^ 63:Int))=false:=decide_eq_false (by omega)
  have e2:decide (i >= 2 ^ 63)=false:=decide_eq_false (by omega)
  rw [e1,e2,Bool.or_false]) (by rw [h1];simpa using h2) ⟨.str ⟨#[c]⟩,H,I.tok _,⟨_,rfl⟩,q⟩) hs
noncomputable def rIx (K:PySem.W.Frag):R2:=fun x y H Q=>rIxL K x y H Q\/rIxT K x y H Q\/rIxS x y H Q
theorem ix_seq:IxR X (rIx X.K):=ix_list.or (ix_tup.or ix_str)
theorem mapSeq_set (its:List Value)(n j:Nat)(u:Value):Obj.mapSeq (·.setIfInBounds j u) { cls:=.type "list",data:=.seq its.toArray n } = { cls:=.type "list",data:=.seq (its.set j u).toArray n }:=by
 simp [Obj.mapSeq]
theorem Inv.lst {pins:List (Addr×Obj)}{σ:St}{H:Hp}{s:Shared}{p:Addr}{xs:List V}(I:Inv X pins σ H s)(h:H p=some (.lst xs)) :
  ∃ (its:List Value)(n:Nat),Vals xs its/\s.heap.get? p=some { cls:=.type "list",data:=.seq its.toArray n }/\xs.length<=sizeLine:=by
 obtain ⟨z,its,n,r,e⟩:=I.hok p _ h
 exact ⟨its,n,r,e,z⟩
theorem Inv.lstUpd {pins:List (Addr×Obj)}{σ:St}{H:Hp}{s:Shared}{p:Addr}{xs ys:List V}{its its':List Value}{n n':Nat}{f:Obj->Obj}(I:Inv X pins σ H s)(h:H p=some (.lst xs))
  (ho:s.heap.get? p=some { cls:=.type "list",data:=.seq its.toArray n }) (hf:f { cls:=.type "list",data:=.seq its.toArray n } = { cls:=.type "list",data:=.seq its'.toArray n' }) (r:Vals ys its')(hz:ys.length<=sizeLine)(t:Nat) :
  Inv X pins σ (upd H p (.lst ys)) { s with heap:=s.heap.update p f,toks:=t }:=by
 have e:(s.heap.update p f).get? p=some { cls:=.type "list",data:=.seq its'.toArray n' }:=by
  rw [Heap.get?_update_self f ho (by rw [hf]<;>rfl),hf]
 refine I.write (x:=p) (e:=p) (by rw [h];trivial) (.inl rfl) (fun b u hb q=>(Heap.get?_update_other _ _ (Ne.symm hb)).trans q) ⟨_,e⟩ ?_
 exact ⟨hz,its',n',r,e⟩
noncomputable def rSetL:V->V->V->Hp->(Hp->Prop)->Prop:=fun o i v H Q=>∃ p xs k j,o=.ref p/\i=.int k/\H p=some (.lst xs)/\ixN xs.length k=some j/\Q (upd H p (.lst (xs.set j v)))
theorem set_list:PSet X rSetL:=by
 intro pins s σ H o i v ov iv u Q I ro ri rv h
 obtain ⟨p,xs,k,j,rfl,rfl,hp,hj,q⟩:=h
 cases ro
 obtain ⟨t,rfl⟩:=ri
 obtain ⟨its,n,r,ho,hz⟩:=I.lst hp
 obtain ⟨h1,h2,h3,h4⟩:=ixN_seq hj
 have hl:=r.length
 have hn:=line63
 have I':Inv X pins σ (upd H p (.lst (xs.set j v))) { s with heap:=s.heap.update p (Obj.mapSeq (·.setIfInBounds j u)) }:=
  I.lstUpd hp ho (mapSeq_set its n j u) (r.set rv j) (by rw [List.length_set];exact hz) s.toks
 by_cases h0:0<=k
 ·have hk:k.toNat=j:=by
   rw [seqIndex_of h0 h4] at h1
   exact Option.some.inj h1
  exact PySem.W.ki_setAt ho h0 (by omega) (by rw [List.size_toArray,<- hl];exact h4) (by rw [hk];exact ⟨_,I',q⟩)
 ·have hk:(k+(its.toArray.size:Int)).toNat=j:=by
   rw [seqIndex_neg (by omega) h3] at h1
   rw [List.size_toArray,<- hl]
   exact Option.some.inj h1
  exact PySem.W.ki_setBack ho (by omega) (by rw [List.size_toArray,<- hl];exact h3) (by omega) (by rw [hk];exact ⟨_,I',q⟩)
theorem slice_bounds (lo hi:Option Int)(n:Nat):(sliceBounds lo hi none n).1=((HT.sIx n 0 lo:Nat):Int)/\(sliceBounds lo hi none n).2.1=((HT.sIx n n hi:Nat):Int)/\(sliceBounds lo hi none n).2.2=1:=by
 refine ⟨?_,?_,rfl⟩
 ·cases lo with
  | none=>simp [sliceBounds,HT.sIx]
  | some i=>
   simp only [sliceBounds,HT.sIx,Option.getD_none,show (1:Int)>0 by decide,if_true]
   by_cases h:i<0
   ·simp only [h,if_true]<;>omega
   ·simp only [h,if_false]<;>omega
 ·cases hi with
  | none=>simp [sliceBounds,HT.sIx]
  | some i=>
   simp only [sliceBounds,HT.sIx,Option.getD_none,show (1:Int)>0 by decide,if_true]
   by_cases h:i<0
   ·simp only [h,if_true]<;>omega
   ·simp only [h,if_false]<;>omega
theorem slicePick_cut (its:List Value)(lo hi:Option Int):slicePick its.toArray lo hi none=((its.drop (HT.sIx its.length 0 lo)).take (HT.sIx its.length its.length hi - HT.sIx its.length 0 lo)).toArray:=by
 obtain ⟨h1,h2,h3⟩:=slice_bounds lo hi its.toArray.size
 unfold slicePick
 rw [h1,h2,h3]
 simp only [sliceRange_one,pick_run,List.size_toArray]<;>rfl
noncomputable def rSlL (K:PySem.W.Frag):V->Option Int->Option Int->Hp->VK->Prop:=fun x lo hi H Q=>∃ a xs,x=.ref a/\SqL K H a xs/\∀ p,H p=none->Q (.ref p) (upd H p (.lst (cutV xs lo hi)))
theorem sl_list:SlR X (rSlL X.K):=by
 intro pins s σ H x v vl vu lo hi sl Q I rx hs pl pu h
 obtain ⟨a,xs,rfl,hx,q⟩:=h
 cases rx
 obtain ⟨its,r,ht,hz⟩:=I.list hx
 have hlen:=r.length
 refine ⟨"list",_,slot_list_getitem.lookup,ht.isList.typeIs,?_⟩
 refine wpAny_getItem_list_slice ht.isList hs pl pu .none (by simp) ?_ (by rw [List.size_toArray]<;>omega)
 rw [slicePick_cut,<- hlen]
 refine ⟨.ref s.heap.objs.size,_,I.laid (t':=s.toks) (o:=.lst (cutV xs lo hi)) (fun b ob q=>Heap.get?_push_of_some _ q) (Nat.le_refl _) ?_,rfl,q _ (I.hok.fresh (Nat.le_refl _))⟩
 exact ⟨Nat.le_trans (cutV_length xs lo hi) hz,_,0,(r.drop (HT.sIx xs.length 0 lo)).take (HT.sIx xs.length xs.length hi - HT.sIx xs.length 0 lo),Heap.get?_push_size _ rfl⟩
theorem op_notIn_str:OpR X (compareOp .NotIn) (fun x y H Q=>∃ i j,x=.str i/\y=.str j/\Q (.bl (!(!(Builtin.Str.occurrences j i 0 j.length 1).isEmpty))) H):=by
 intro pins s σ H x y v u Q I rx ry h
 obtain ⟨i,j,rfl,rfl,q⟩:=h
 obtain ⟨t,rfl⟩:=rx
 obtain ⟨t',rfl⟩:=ry
 exact notIn_str ⟨.bl _,H,I,rfl,q⟩
theorem call_len_seq:CallR X (.builtin "len") (fun xs H Q=>∃ p ys,xs=[.ref p]/\(SqL X.K H p ys\/SqT X.K H p ys)/\Q (.int ys.length) H):=by
 intro pins s σ H xs us Q I r h
 obtain ⟨p,ys,rfl,hq,q⟩:=h
 obtain ⟨u,rfl,rx⟩:=vals1 r
 cases rx
 have hn:=line63
 rcases hq with hq|hq
 ·obtain ⟨its,r',pl,hz⟩:=I.list hq
  have hlen:=r'.length
  exact Calls.call_len_list pl.isList (by simp only [List.size_toArray]<;>omega) ⟨.int ys.length,H,I.tok _,⟨s.toks+1,by rw [List.size_toArray,hlen]⟩,q⟩
 ·obtain ⟨its,r',pl,hz⟩:=I.tuple hq
  have hlen:=r'.length
  exact len_tuple pl (by simp only [List.size_toArray]<;>omega) ⟨.int ys.length,H,I.tok _,⟨s.toks+1,by rw [List.size_toArray,hlen]⟩,q⟩
theorem call_len_str:CallR X (.builtin "len") (fun xs H Q=>∃ z,xs=[.str z]/\z.length<=sizeLine/\Q (.int z.length) H):=by
 intro pins s σ H xs us Q I r h
 obtain ⟨z,rfl,hz,q⟩:=h
 obtain ⟨u,rfl,t,rfl⟩:=vals1 r
 have hn:=line63
 exact len_str (by omega) ⟨.int z.length,H,I.tok _,⟨_,rfl⟩,q⟩
theorem CallR.or {f:Value}{r r':List V->Hp->VK->Prop}(h:CallR X f r)(h':CallR X f r'):CallR X f (fun xs H Q=>r xs H Q\/r' xs H Q):=by
 intro pins s σ H xs us Q I rs q
 rcases q with q|q
 ·exact h pins s σ H xs us Q I rs q
 ·exact h' pins s σ H xs us Q I rs q
theorem call_list_of:CallR X (.type "list") (fun xs H Q=>∃ p ys,xs=[.ref p]/\(SqL X.K H p ys\/SqT X.K H p ys)/\∀ l,H l=none->Q (.ref l) (upd H l (.lst ys))):=by
 intro pins s σ H xs us Q I r h
 obtain ⟨p,ys,rfl,hq,q⟩:=h
 obtain ⟨u,rfl,rx⟩:=vals1 r
 cases rx
 have fin:∀ (its:List Value),Vals ys its->ys.length<=sizeLine->∀ (h':Heap)(c':Nat),(∀ b o',s.heap.get? b=some o'->h'.get? b=some o')->
   h'.get? s.heap.objs.size=some { cls:=.type "list",dict:=none,data:=.seq its.toArray c',slots:=#[] }->EP X pins σ Q (.ref s.heap.objs.size) { s with heap:=h' }:=fun its r' hz h' c' kp e=>
  ⟨.ref s.heap.objs.size,_,I.laid (t':=s.toks) kp (Nat.le_refl _) (show ObjOk X.prog X.w _ h' _ (.lst ys) from ⟨hz,its,c',r',e⟩),rfl,q _ (I.hok.fresh (Nat.le_refl _))⟩
 rcases hq with hq|hq
 ·obtain ⟨its,r',pl,hz⟩:=I.list hq
  have hlen:=r'.length
  obtain ⟨o,ho,hc,n,hd⟩:=pl.isList
  exact call_list_seq p (.inl rfl) ho hc hd (fun h' c' kp e=>fin its r' hz h' c' kp e) (by simp only [List.size_toArray]<;>omega)
 ·obtain ⟨its,r',pl,hz⟩:=I.tuple hq
  have hlen:=r'.length
  obtain ⟨o,ho,hc,n,hd⟩:=pl
  exact call_list_seq p (.inr rfl) ho hc hd (fun h' c' kp e=>fin its r' hz h' c' kp e) (by simp only [List.size_toArray]<;>omega)
theorem call_tuple_of:CallR X (.type "tuple") (fun xs H Q=>∃ p ys,xs=[.ref p]/\((SqL X.K H p ys/\∀ l,H l=none->Q (.ref l) (upd H l (.tup ys)))\/(SqT X.K H p ys/\Q (.ref p) H))):=by
 intro pins s σ H xs us Q I r h
 obtain ⟨p,ys,rfl,h⟩:=h
 obtain ⟨u,rfl,rx⟩:=vals1 r
 cases rx
 rcases h with ⟨hq,q⟩|⟨hq,q⟩
 ·obtain ⟨its,r',pl,hz⟩:=I.list hq
  have hlen:=r'.length
  refine call_tuple_list pl.isList (fun h' kp=>?_) (by simp only [List.size_toArray]<;>omega)
  have I1:Inv X pins σ H { s with heap:=h' }:=I.kept (t':=s.toks) kp
  have I2:Inv X pins σ (upd H h'.objs.size (.tup ys)) { s with heap:=h'.push { cls:=.type "tuple",data:=.seq its.toArray } }:=
   I1.laid (t':=s.toks) (fun b o e=>Heap.get?_push_of_some _ e) (Nat.le_refl _) (show ObjOk X.prog X.w _ _ _ (.tup ys) from ⟨hz,its,r',TupN.new _ _⟩)
  exact ⟨.ref h'.objs.size,_,I2,rfl,q _ (I1.hok.fresh (Nat.le_refl _))⟩
 ·obtain ⟨its,r',pl,hz⟩:=I.tuple hq
  exact call_tuple_same pl ⟨.ref p,H,I,rfl,q⟩
noncomputable def tyV (K:PySem.W.Frag)(T:String)(x:V)(H:Hp):Prop:=match x with
 | .str _=>T = "str"
 | .int _=>T = "int"
 | .ref p=>(T = "list"/\∃ xs,SqL K H p xs)\/(T = "tuple"/\∃ o,K.lookup p=some o/\o.cls=.type "tuple"/\o.dict=none) \/
   (T = "dict"/\((∃ kvs,H p=some (.dK kvs))\/∃ kvs,H p=some (.dT kvs)))\/(T = "set"/\∃ S n,H p=some (.set S n))
 | _=>False
theorem tyV_is {pins:List (Addr×Obj)}{σ:St}{H:Hp}{s:Shared}{T:String}{x:V}{v:Value}(I:Inv X pins σ H s)(r:RelV x v)(ty:tyV X.K T x H) :
  s.TypeIs v T/\∀ a,v=.ref a->∃ ob,s.heap.get? a=some ob/\ob.dict=none:=by
 cases x with
 | str z=>
  obtain ⟨t,rfl⟩:=r
  cases (show T = "str" from ty)
  exact ⟨typeIs_str s z t,fun _ e=>nomatch e⟩
 | int i=>
  obtain ⟨t,rfl⟩:=r
  cases (show T = "int" from ty)
  exact ⟨typeIs_int s i t,fun _ e=>nomatch e⟩
 | ref p=>
  cases r
  rcases ty with ⟨rfl,xs,hq⟩|⟨rfl,o,hk,hc,hd⟩|⟨rfl,hk⟩|⟨rfl,S,n,hk⟩
  ·obtain ⟨its,_,pl,_⟩:=I.list hq
   refine ⟨pl.isList.typeIs,fun a e=>?_⟩
   cases e
   obtain ⟨o,n,e,c,hd,_⟩:=pl
   exact ⟨o,e,hd⟩
  ·refine ⟨⟨o,I.kIn p o hk,hc⟩,fun a e=>?_⟩
   cases e
   exact ⟨o,I.kIn _ o hk,hd⟩
  ·have z:∃ o,s.heap.get? p=some o/\o.ExactDict:=by
    rcases hk with ⟨kvs,hk⟩|⟨kvs,hk⟩
    ·obtain ⟨_,_,_,_,o,_,_,e,ex,_⟩:=I.hok p _ hk
     exact ⟨o,e,ex⟩
    ·obtain ⟨_,_,_,_,o,_,_,e,ex,_⟩:=I.hok p _ hk
     exact ⟨o,e,ex⟩
   obtain ⟨o,e,ex⟩:=z
   refine ⟨⟨o,e,ex.1⟩,fun a e2=>?_⟩
   cases e2
   exact ⟨o,e,ex.2.1⟩
  ·obtain ⟨o,_,_,_,e,ex,_⟩:=I.hok p _ hk
   refine ⟨⟨o,e,ex.1⟩,fun a e2=>?_⟩
   cases e2
   exact ⟨o,e,ex.2.1⟩
 | _=>exact False.elim ty
noncomputable def tBM0 (K:PySem.W.Frag)(T:String)(r:V->List V->Hp->VK->Prop)(to:TE):TE:=fun σ H Q=>to σ H fun x H1=>tyV K T x H1/\r x [] H1 Q
noncomputable def tBM (K:PySem.W.Frag)(T:String)(r:V->List V->Hp->VK->Prop)(to:TE)(t:TA):TE:=fun σ H Q=>to σ H fun x H1=>tyV K T x H1/\t σ H1 fun xs H2=>r x xs H2 Q
variable {o e:Expr}{es:List Expr}{to:TE}{t:TA}{name:Str}{apos cpos:Pos}{T id:String}{r:V->List V->Hp->VK->Prop}
theorem pe_bm0 (pa:PlainAttrs T)(slot:Slot T name id)(hty:typeOf (.builtin id)=pure (.type "method_descriptor")) (hm:MtR X id r)(ho:PE X o to)
  (hbase:attributeBase o name X.env (eval o X.env)=eval o X.env:=by rfl)(hline:(apos.endLine == cpos.line)=true:=by rfl):PE X (.Call (.Attribute o name apos) [] [] cpos) (tBM0 X.K T r to):=by
 intro pins s σ H Q I h
 refine wpAny_Call_method0_late hbase hline (thn (ho pins s σ H _ I h) fun v s1 ⟨x,H1,I1,r1,ty,q1⟩=>?_)
 obtain ⟨h1,h2⟩:=tyV_is I1 r1 ty
 exact ⟨T,id,pa,slot,hty,h1,h2,Calls.callWith_builtin rfl (PySem.evalArgs_none (hm pins s1 σ H1 x [] v [] Q I1 r1 .nil q1))⟩
theorem pe_bm (pa:PlainAttrs T)(slot:Slot T name id)(hty:typeOf (.builtin id)=pure (.type "method_descriptor")) (hm:MtR X id r)(ho:PE X o to)(ha:PA X (e::es) t)
  (hbase:attributeBase o name X.env (eval o X.env)=eval o X.env:=by rfl)
  (hfew:((backTo cpos (starEach (e::es) X.env)).all (fun x=>!x.1)&&(backToKw cpos (keywordEach [] X.env)).all (fun x=>x.1.isSome)
   && decide ((e::es).length+([]:List Keyword).length+(if ([]:List Keyword).isEmpty then 0 else 1)<30))=true:=by rfl)
  (hline:(apos.endLine == cpos.line)=true:=by rfl)(hs:starEach (e::es) X.env=(false,eval e X.env)::starEach es X.env:=by rfl)(hplain:(backTo cpos (starEach es X.env)).any (·.1)=false:=by rfl) :
  PE X (.Call (.Attribute o name apos) (e::es) [] cpos) (tBM X.K T r to t):=by
 intro pins s σ H Q I h
 refine wpAny_Call_method_late hbase hfew hline rfl (thn (ho pins s σ H _ I h) fun v s1 ⟨x,H1,I1,r1,ty,q1⟩=>?_)
 obtain ⟨h1,h2⟩:=tyV_is I1 r1 ty
 refine ⟨T,id,pa,slot,hty,h1,h2,?_⟩
 have hA:=ha cpos pins s1 σ H1 _ I1 q1
 rw [hs] at hA ⊢
 refine Calls.callWith_builtin (by show (false||(backTo cpos (starEach es X.env)).any (·.1))=false;rw [hplain]<;>rfl) (Calls.evalArgs_plain ?_)
 exact thn hA fun us s2 ⟨vs,H2,I2,r2,q2⟩=>hm pins s2 σ H2 x vs v us Q I2 r1 r2 q2
/- xs.append(e),list.index on a module's tuple .. are MtR facts of 06m -/
end
end L2
namespace L2
open PySem PySem.Spec PyProof.Rows
noncomputable def MtM (X:Cx)(id:String)(r:V->List V->Hp->VK->Prop):Prop:=
 ∀ (pins:List (Addr×Obj))(s:Shared)(σ:St)(H:Hp)(x:V)(xs:List V)(v:Value)(us:List Value)(Q:VK),Inv X pins σ H s->RelV x v->Vals xs us->r x xs H Q->
  wpAny (model X.prog X.w) X.A (call (.builtin id) (v::us)) (EP X pins σ Q) X.xe s
theorem Vals.one:∀ {x:V}{us:List Value},Vals [x] us->∃ u,us=[u]/\RelV x u
 | _,_,.cons r .nil=>⟨_,rfl,r⟩
theorem Vals.zero:∀ {us:List Value},Vals [] us->us=[]
 | _,.nil=>rfl
theorem Vals.dropLast {xs:List V}{us:List Value}(h:Vals xs us):Vals xs.dropLast us.dropLast:=by
 induction h with
 | nil=>exact .nil
 | cons r t ih=>
  cases t with
  | nil=>exact .nil
  | cons q t'=>exact .cons r ih
theorem Vals.reverse {xs:List V}{us:List Value}(h:Vals xs us):Vals xs.reverse us.reverse:=by
 induction h with
 | nil=>exact .nil
 | cons r t ih=>rw [List.reverse_cons,List.reverse_cons];exact Vals.append ih (.cons r .nil)
theorem Vals.rep {xs:List V}{us:List Value}(h:Vals xs us):∀ k:Nat,Vals (List.replicate k xs).flatten (List.replicate k us).flatten
 | 0=>.nil
 | k+1=>by
  rw [List.replicate_succ,List.replicate_succ,List.flatten_cons,List.flatten_cons]
  exact Vals.append h (Vals.rep h k)
theorem erase_last {α:Type}(l:List α):l.eraseIdx (l.length - 1)=l.dropLast:=by
 induction l with
 | nil=>rfl
 | cons a r ih=>
  cases r with
  | nil=>rfl
  | cons b r=>
   have e:(a::b::r).length - 1=((b::r).length - 1)+1:=by
    have h1:(a::b::r).length=r.length+2:=rfl
    have h2:(b::r).length=r.length+1:=rfl
    omega
   rw [e,List.eraseIdx_cons_succ,ih]
   all_goals rfl
theorem foldl_rep (its:List Value):∀ (k:Nat)(acc:List Value),
  List.foldl (fun x1 x2=>x1++x2) acc.toArray (List.replicate k its.toArray)=(acc++(List.replicate k its).flatten).toArray
 | 0,acc=>by simp
 | k+1,acc=>by
  have e:acc.toArray++its.toArray=(acc++its).toArray:=by simp
  have e2:(acc++its)++(List.replicate k its).flatten=acc++(List.replicate (k+1) its).flatten:=by
   rw [List.replicate_succ,List.flatten_cons,List.append_assoc]
  rw [<- e2,<- foldl_rep its k (acc++its),<- e,List.replicate_succ,List.foldl_cons]
section
variable {X:Cx}{pins:List (Addr×Obj)}{σ:St}{H:Hp}{s:Shared}{l b:Addr}{xs ys zs:List V}
theorem Inv.lset {its its':List Value}{n:Nat}{f:Array Value->Array Value}{t':Nat}(I:Inv X pins σ H s)(hH:H l=some (.lst xs))
  (e:s.heap.get? l=some { cls:=.type "list",data:=.seq its.toArray n }) (hf:f its.toArray=its'.toArray)(hv:Vals ys its')(hz:ys.length<=sizeLine) :
  Inv X pins σ (upd H l (.lst ys)) { s with heap:=s.heap.update l (Obj.mapSeq f),toks:=t' }:=by
 have q:=PySem.IsL.update e f
 rw [hf] at q
 refine I.write (x:=l) (e:=l) (by rw [hH];exact trivial) (.inl rfl) (fun b' u hb hu=>(Heap.get?_update_other s.heap (Obj.mapSeq f) (Ne.symm hb)).trans hu) ⟨_,q⟩ ?_
 exact ⟨hz,its',_,hv,q⟩
theorem Inv.lnew {its:List Value}{t':Nat}(I:Inv X pins σ H s)(hv:Vals ys its)(hz:ys.length<=sizeLine) :
  Inv X pins σ (upd H s.heap.objs.size (.lst ys)) { s with heap:=s.heap.push { cls:=.type "list",data:=.seq its.toArray },toks:=t' }:=
 I.laid (fun _ _ q=>Heap.get?_push_of_some _ q) (Nat.le_refl _) ⟨hz,its,0,hv,Heap.get?_push_size _ rfl⟩
theorem Inv.fresh (I:Inv X pins σ H s):H s.heap.objs.size=none:=I.hok.fresh (Nat.le_refl _)
theorem Inv.lstM (I:Inv X pins σ H s)(hH:H l=some (.lst xs)):xs.length<=sizeLine/\∃ (its:List Value)(n:Nat),Vals xs its/\xs.length=its.length/\s.heap.get? l=some { cls:=.type "list",data:=.seq its.toArray n }:=by
 obtain ⟨z,its,n,r,e⟩:=I.hok l _ hH
 exact ⟨z,its,n,r,r.length,e⟩
theorem notLongL {n:Nat}(h:n<=sizeLine):Builtin.List.listTooLong n=false:=by
 unfold Builtin.List.listTooLong
 exact decide_eq_false (by omega)
end
section
variable {X:Cx}
noncomputable def rAppend:V->List V->Hp->VK->Prop:=fun x vs H Q=>∃ l xs y,x=.ref l/\vs=[y]/\H l=some (.lst xs)/\xs.length<sizeLine/\Q .non (upd H l (.lst (xs++[y])))
theorem mt_append:MtM X "list.append" rAppend:=by
 intro pins s σ H x vs v us Q I rx rv h
 obtain ⟨l,xs,y,rfl,rfl,hH,hz,q⟩:=h
 cases rx
 obtain ⟨u,rfl,ru⟩:=rv.one
 obtain ⟨z,its,n,r,hl,e⟩:=I.lstM hH
 refine call_meets F.slot_list_append ⟨_,e,rfl⟩ F.entry_list_append (F.args_list_append_2 _ _) (PySem.list_append l its.toArray n u (by rw [List.size_toArray];omega)) ⟨e,?_⟩
 refine ⟨.non,_,I.lset (its':=its++[u]) hH e (by simp) (r.append (.cons ru .nil)) ?_,rfl,q⟩
 rw [List.length_append,List.length_singleton]
 omega
noncomputable def rExtend:V->List V->Hp->VK->Prop:=fun x vs H Q=>∃ l b xs zs,x=.ref l/\vs=[.ref b]/\H l=some (.lst xs)/\H b=some (.lst zs)/\xs.length+zs.length<=sizeLine/\Q .non (upd H l (.lst (xs++zs)))
theorem mt_extend:MtM X "list.extend" rExtend:=by
 intro pins s σ H x vs v us Q I rx rv h
 obtain ⟨l,b,xs,zs,rfl,rfl,hH,hB,hz,q⟩:=h
 cases rx
 obtain ⟨u,rfl,ru⟩:=rv.one
 cases ru
 obtain ⟨z,its,n,r,hl,e⟩:=I.lstM hH
 obtain ⟨z2,its2,n2,r2,hl2,e2⟩:=I.lstM hB
 have hsz:its.toArray.size+its2.toArray.size<=sizeLine:=by rw [List.size_toArray,List.size_toArray];omega
 have hlong:¬ (!its.toArray.isEmpty&&Builtin.List.listTooLong (its.toArray.size+its2.toArray.size))=true:=by
  rw [notLongL hsz,Bool.and_false]
  exact Bool.false_ne_true
 refine call_meets F.slot_list_extend ⟨_,e,rfl⟩ F.entry_list_extend (F.args_list_extend_2 _ _)
  (AutoSeq1.list_extend_list_list_0 l its.toArray n b its2.toArray n2 hlong (by rw [List.size_toArray];omega) (by omega)) ⟨e,e2,?_⟩
 refine ⟨.non,_,I.lset (its':=its++its2) hH e (by simp) (r.append r2) ?_,rfl,q⟩
 rw [List.length_append]
 omega
noncomputable def rPop:V->List V->Hp->VK->Prop:=fun x vs H Q=>∃ l xs y,x=.ref l/\vs=[]/\H l=some (.lst xs)/\xs[xs.length - 1]? = some y/\Q y (upd H l (.lst xs.dropLast))
theorem mt_pop:MtM X "list.pop" rPop:=by
 intro pins s σ H x vs v us Q I rx rv h
 obtain ⟨l,xs,y,rfl,rfl,hH,hy,q⟩:=h
 cases rx
 have hus:=rv.zero
 subst hus
 obtain ⟨z,its,n,r,hl,e⟩:=I.lstM hH
 obtain ⟨u,hu,ru⟩:=r.get hy
 have hy':its.toArray[its.toArray.size - 1]? = some u:=by
  show its.toArray[its.length - 1]? = some u
  rw [<- Array.getElem?_toList,<- hl]
  exact hu
 refine call_meets F.slot_list_pop ⟨_,e,rfl⟩ F.entry_list_pop (F.args_list_pop_1 _) (MeetsSeq.list_pop_last l its.toArray n u hy' (by rw [List.size_toArray];omega)) ⟨e,?_⟩
 refine ⟨y,_,I.lset (its':=its.dropLast) hH e ?_ r.dropLast ?_,ru,q⟩
 ·show its.toArray.eraseIdxIfInBounds (its.toArray.size - 1)=its.dropLast.toArray
  rw [List.size_toArray,List.eraseIdxIfInBounds_toArray,erase_last]
 ·rw [List.length_dropLast]
  omega
noncomputable def rReverse:V->List V->Hp->VK->Prop:=fun x vs H Q=>∃ l xs,x=.ref l/\vs=[]/\H l=some (.lst xs)/\Q .non (upd H l (.lst xs.reverse))
theorem mt_reverse:MtM X "list.reverse" rReverse:=by
 intro pins s σ H x vs v us Q I rx rv h
 obtain ⟨l,xs,rfl,rfl,hH,q⟩:=h
 cases rx
 have hus:=rv.zero
 subst hus
 obtain ⟨z,its,n,r,hl,e⟩:=I.lstM hH
 refine call_meets F.slot_list_reverse ⟨_,e,rfl⟩ F.entry_list_reverse (F.args_list_reverse_1 _) (AutoSeq1.list_reverse_list_0 l its.toArray n (by rw [List.size_toArray];omega)) ⟨e,?_⟩
 refine ⟨.non,_,I.lset (its':=its.reverse) hH e (by simp) r.reverse ?_,rfl,q⟩
 rw [List.length_reverse]
 omega
noncomputable def rClear:V->List V->Hp->VK->Prop:=fun x vs H Q=>∃ l xs,x=.ref l/\vs=[]/\H l=some (.lst xs)/\Q .non (upd H l (.lst []))
theorem mt_clear:MtM X "list.clear" rClear:=by
 intro pins s σ H x vs v us Q I rx rv h
 obtain ⟨l,xs,rfl,rfl,hH,q⟩:=h
 cases rx
 have hus:=rv.zero
 subst hus
 obtain ⟨z,its,n,r,hl,e⟩:=I.lstM hH
 refine call_meets F.slot_list_clear ⟨_,e,rfl⟩ F.entry_list_clear (F.args_list_clear_1 _) (AutoSeq1.list_clear_list_0 l its.toArray n (by rw [List.size_toArray];omega)) ⟨e,?_⟩
 exact ⟨.non,_,I.lset (its':=[]) (ys:=[]) hH e rfl .nil (Nat.zero_le _),rfl,q⟩
noncomputable def rRep:R2:=fun x y H Q=>∃ l k xs,x=.ref l/\y=.int k/\H l=some (.lst xs)/\-(2 ^ 63)<=k/\k<2 ^ 63/\xs.length * k.toNat<=sizeLine /\
 ∀ p,H p=none->Q (.ref p) (upd H p (.lst (List.replicate k.toNat xs).flatten))
theorem len_rep {α:Type}(xs:List α)(k:Nat):(List.replicate k xs).flatten.length=k * xs.length:=by
 induction k with
 | zero=>simp
 | succ k ih=>rw [List.replicate_succ,List.flatten_cons,List.length_append,ih,Nat.succ_mul,Nat.add_comm]
theorem op_rep:OpR X (binaryOp .Mult) rRep:=by
 intro pins s σ H x y v u Q I rx ry h
 obtain ⟨l,k,xs,rfl,rfl,hH,h1,h2,hz,q⟩:=h
 cases rx
 obtain ⟨t,rfl⟩:=ry
 obtain ⟨z,its,n,r,hl,e⟩:=I.lstM hH
 have hlen:its.toArray.size * k.toNat<=sizeLine:=by rw [List.size_toArray,<- hl];exact hz
 have hcap:¬ its.toArray.size * k.toNat>(2 ^ 63 - 1) / 8:=by
  have:(sizeLine:Nat)<=(2 ^ 63 - 1) / 8:=by decide
  omega
 have hfit:¬ (!Builtin.List.listFitsIndex k)=true:=by
  rw [fitsIndex_both h1 h2]
  exact Bool.false_ne_true
 have hlong:¬ Builtin.List.listTooLong (its.toArray.size * k.toNat)=true:=by
  rw [notLongL hlen]
  exact Bool.false_ne_true
 have hnew:List.foldl (fun x1 x2=>x1++x2) #[] (List.replicate (if its.toArray.isEmpty=true then 0 else k.toNat) its.toArray)=(List.replicate k.toNat its).flatten.toArray:=by
  have f0:∀ m:Nat,List.foldl (fun x1 x2=>x1++x2) #[] (List.replicate m its.toArray)=(List.replicate m its).flatten.toArray:=fun m=>by
   have:=foldl_rep its m []
   rw [List.nil_append] at this
   exact this
  rw [f0]
  cases its with
  | nil=>simp
  | cons a r'=>rw [if_neg (by simp)]
 refine wpAny_binaryOp_repeat_ref (T:="list") (U:="int") (by decide) ⟨_,e,rfl⟩ (fun s'=>typeIs_int s' k t) noFill_list_mul F.fills_int_mul F.slot_int_rmul repeat_list F.slot_int_index.lookup
  (call_meets F.slot_int_rmul (typeIs_int s k t) F.entry_int_rmul (F.args_int_rmul_2 _ _) (int___rmul___int_list k t l its.toArray n)
   ⟨e,rfl,⟨_,e,rfl⟩,call_meets F.slot_list_mul ⟨_,e,rfl⟩ F.entry_list_mul (F.args_list_mul_2 _ _) (AutoListH.list___mul___list_int_3 l its.toArray n k t hfit hcap hlong) ⟨e,?_⟩⟩)
 rw [hnew]
 exact ⟨.ref _,_,I.lnew (t':=s.toks) (r.rep k.toNat) (by rw [len_rep,Nat.mul_comm];exact hz),rfl,q _ I.fresh⟩
end
section
variable {prog:Program}{w:World}{A:Around}{E:Value->Shared->Prop}{s:Shared}
end
section
variable {X:Cx}
end
end L2
namespace Att
open PySem PySem.W PySem.Calls PyProof.Rows
theorem ints_of_wellAll {P:Params}{h:Heap}:∀ (ns:List Int)(vs:List Value),WellAll P h vs (ns.map WData.int)->IntsAre vs ns:=by
 intro ns
 induction ns with
 | nil=>
  intro vs w
  rw [List.map_nil] at w
  cases w
  exact .nil
 | cons n ns ih=>
  intro vs w
  rw [List.map_cons] at w
  cases w with
  | cons a b=>
   cases a
   exact .cons _ _ (ih _ b)
theorem script_of {l:OpenLaw}{n:Nat}(hn:l.most=some n){P:Params}{h:Heap}{args:List WData}{vals:List Value}
  (hpre:l.row.toRowW.claim.pre args=true)(hwl:WellAll P h vals args) :
  ∃ a vs ns,vals=[Value.ref a]/\args=[WData.list (ns.map WData.int)]/\h.get? a=some { cls:=.type "list",data:=.seq vs.toArray }/\IntsAre vs ns/\ns.length<=n:=by
 have hsh:WShape.hasAll [] args [.list .int]=true:=(pre_splitW hpre).1
 have hc:l.pre.holds [] { args:=args } = true:=(pre_splitW hpre).2
 obtain ⟨d,r,rfl,h1,h2⟩:=hasAllW_cons hsh
 obtain rfl:=hasAllW_nil h2
 obtain ⟨xs,rfl,h3⟩:=hasW_list h1
 obtain ⟨ns,rfl⟩:=items_int h3
 have hlen:ns.length<=n:=by
  unfold OpenLaw.pre at hc
  have h4:(WTm.not (.lt (.lit (.int (n:Int))) (.len (.arg 0)))).holds [] { args:=[.list (ns.map .int)] } = true:=by
   have h4:=(holds_andW hc).1
   rw [hn] at h4
   exact h4
  have h5:=condW_of h4 (w_not (w_lt w_lit (w_len_list (w_arg rfl))))
  rw [Zl] at h5
  refine Nat.le_of_not_lt fun q=>?_
  have q':(n:Int)<((ns.length:Nat):Int):=by omega
  first
   | (rw [decide_eq_true q'] at h5;exact absurd h5 (by decide))
   | (simp at h5;omega)
 cases hwl with
 | cons w1 w2=>
  cases w2
  cases w1 with
  | list ho hall=>exact ⟨_,_,ns,rfl,rfl,ho,ints_of_wellAll ns _ hall,hlen⟩
theorem post_true (l:OpenLaw)(args:List WData):l.row.toRowW.claim.post args (.bool true) args=true:=
 postW_of (r:=l.row.toRowW) (X:=(true == true))
  (show WShape.has [] (.bool true) .bool=true by first|rfl|decide|simp [WShape.has,WShape.arms,WShape.armsAll])
  (show (WTm.eq .res (.lit (.bool true))).value [] { args:=args,res:=some (.bool true),after:=args } = some (.bool (true == true)) from w_eq_bool (w_res rfl) w_lit) rfl
section
variable {prog:Program}{w:World}{A:Around}{E:Value->Shared->Prop}{s:Shared}{K:Frag}
noncomputable def ledger (h:Heap)(L d:Addr):List (Addr×Obj):=(List.range h.objs.size).filterMap fun a=>if a=L\/a=d then none else (h.get? a).map fun o=>(a,o)
end
end Att
namespace L2
open PySem PySem.Spec PyProof.Rows
theorem vals_ints:∀ {vs:List Value}{ns:List Int},IntsAre vs ns->Vals (ns.map V.int) vs
 | _,_,.nil=>.nil
 | _,_,.cons n t h=>.cons ⟨t,rfl⟩ (vals_ints h)
noncomputable def Only (H:Hp):Prop:=∀ b,H b=none\/∃ o xs,H b=some (.frz o (.lst xs))
theorem law_call {P:Program}{w:World}{K:PySem.W.Frag}{mg mb:Str->Option Value}{CX:CXT}{k:Nat}{fa a:Addr}{fd:FuncData}{x:Str}{sp:Sp}{s₁:Shared}{vs:List Value}{ns:List Int}
  (KX:K.In s₁.heap)(hns:s₁.heap.Ns mainGlobals mg)(hb:s₁.heap.Ns builtinsNs mb)(hbb:∀ x:Str,x ≠ "__name__"->mb x=bootBuiltins x) (hlim:s₁.heap.NoLimit)(hg:s₁.gens = #[])
  (ha:s₁.heap.get? a=some { cls:=.type "list",data:=.seq vs.toArray }) (hi:IntsAre vs ns)(hl:ns.length<=sizeLine)(hr:Room k callerA)
  (F:∀ base:Heap,K.In base->base.Ns mainGlobals mg->FnOk P w K mg base CX k fa fd [x] sp)(hbind:∀ (s:Shared)(u:Value),BindsTo s fd ⟨[u],[]⟩ [(x,u)])
  (hsp:∀ H:Hp,Only H->SqL K H a (ns.map V.int)->sp [.ref a] H (fun v _=>v=.bl true) fun _ _ _=>False)
  (hCX:∀ H e s',CX [] H s₁ (fun _ _ _=>False) e s'->False) :
  codeAny (model P w) callerA (.call (.ref fa) ⟨[.ref a],[]⟩) (fun r s'=>r=.ok (.ret (.bool true))/\OldK s₁.heap s'.heap/\s'.os=s₁.os/\AllBare s'.gens) s₁:=by
 have rv:=vals_ints hi
 have lenV:=hi.length
  -- from an abstract heap in which nothing but the script may be tracked
 have core:∀ H:Hp,Only H->SqL K H a (ns.map V.int)->HOk P w H s₁.heap->(∀ b,H b≠none->b=a)->(H a≠none->K.lookup a=none)->
   codeAny (model P w) callerA (.call (.ref fa) ⟨[.ref a],[]⟩) (fun r s'=>r=.ok (.ret (.bool true))/\OldK s₁.heap s'.heap/\s'.os=s₁.os/\AllBare s'.gens) s₁:=by
  intro H hO hS hok hA hK
  have base_of:∀ {b:Addr}{o:Obj},s₁.heap.get? b=some o->H b=none->(hidT s₁.heap H).get? b=some o:=fun e n=>hidT_get e n
  have noA:∀ {b:Addr}{o:Obj}{es:Array DictEntry}{ep:Nat},s₁.heap.get? b=some o->o.data=.dict es ep->H b=none:=fun {b o es ep} e d=>by
   cases q:H b with
   | none=>rfl
   | some u=>
    have e':b=a:=hA b (by rw [q];simp)
    subst e'
    rw [ha] at e;cases e
    have d':Data.seq vs.toArray _=Data.dict es ep:=d
    cases d'
  have nsK:∀ {b:Addr}{m:Str->Option Value},s₁.heap.Ns b m->(hidT s₁.heap H).Ns b m:=fun {b m} ⟨o,es,ep,e,d,r⟩=>⟨o,es,ep,base_of e (noA e d),d,r⟩
  have hKb:K.In (hidT s₁.heap H):=fun b o e=>base_of (KX b o e) (by
   cases q:H b with
   | none=>rfl
   | some u=>
    have e':b=a:=hA b (by rw [q];simp)
    subst e'
    rw [hK (by rw [q];simp)] at e;cases e)
  have hM:Mod K mg (hidT s₁.heap H):=⟨hKb,nsK hns,⟨mb,nsK hb,hbb⟩,let ⟨mc,h1,h2⟩:=hlim;⟨mc,nsK h1,h2⟩⟩
  have e0:Env0 P w K mg (hidT s₁.heap H) callerA [] s₁ H:=⟨rfl,hM,fun b o e=>of_hidT e,Nat.le_of_eq (hidT_size _ _),trivial,fun b hb=>absurd (show b∈([]:List Addr) from hb) (by simp),hok,.of_eq hg⟩
  refine codeAny_mono ((F _ hKb (nsK hns)).run callerA [] s₁ H ⟨[.ref a],[]⟩ [.ref a] [.ref a] _ _ hr e0 (hbind s₁ (.ref a)) (.cons rfl .nil) (hsp H hO hS)) fun r s' h=>?_
  cases r with
  | error e=>exact (hCX H e s' h).elim
  | ok fl=>
   cases fl with
   | next=>exact False.elim h
   | brk=>exact False.elim h
   | cont=>exact False.elim h
   | ret u=>
    obtain ⟨v,H',os,bare,un,hok',r',q⟩:=h
    have q':v=.bl true:=q
    subst q'
    obtain rfl:u=Value.bool true:=r'
    refine ⟨rfl,OldK.of_keep fun b o e=>?_,os,bare⟩
    cases q:H b with
    | none=>exact un.keep b o e q (by intro z;exact absurd (show b∈([]:List Addr) from z) (by simp)) (by simp)
    | some u=>
     rcases hO b with z|⟨ob,xs,z⟩
     ·rw [q] at z;cases z
     ·have z2:=un.frzs b ob _ z
      obtain ⟨e1,_⟩:=hok b _ z
      obtain ⟨e2,_⟩:=hok' b _ z2
      rw [e] at e1;cases e1
      exact e2
 cases hk:K.lookup a with
 | some o=>
    -- the script is one of the module's own objects
  have e:=KX a o hk
  rw [ha] at e
  cases e
  refine core (fun _=>none) (fun _=>.inl rfl) (.inr ⟨_,vs.toArray,_,hk,rfl,rfl,rfl,by rw [List.size_toArray,lenV];exact hl,by simpa using rv⟩) (fun b u z=>by have z':(none:Option HO)=some u:=z;cases z') (fun b z=>absurd rfl z) fun z=>absurd rfl z
 | none=>
  refine core (fun b=>if b=a then some (.frz { cls:=.type "list",data:=.seq vs.toArray } (.lst (ns.map V.int))) else none) (fun b=>?_) (.inl (.inr ⟨{ cls:=.type "list",data:=.seq vs.toArray },if_pos rfl⟩)) (fun b u z=>?_) (fun b z=>?_) fun _=>hk
  ·by_cases hb:b=a
   ·exact .inr ⟨_,_,if_pos hb⟩
   ·exact .inl (if_neg hb)
  ·by_cases hb:b=a
   ·have z':=(if_pos hb).symm.trans z
    cases z'
    subst hb
    exact ⟨ha,by rw [Zl];exact hl,vs,_,rv,ha⟩
   ·have z':=(if_neg hb).symm.trans z
    cases z'
  ·by_cases hb:b=a
   ·exact hb
   ·exact absurd (if_neg hb) z
end L2
namespace L2
open PySem PySem.Spec PyProof.Rows
noncomputable abbrev KOf {K:PySem.W.Frag}{h:Heap}(_:K.In h):PySem.W.Frag:=K
end L2
/- THE LAST THEOREM (shape; LID,My.* are yours):
   My.Adr: a structure of the addresses that your layer names (classes,functions);My.Txt K t: a structure (Prop) of the equations over K;
   My.txt_mk:{K} {implicit addresses ..} (e1:nsIn K mainGlobals "law" = some (some (.ref f))) (e2:K.lookup f=some ⟨oc,od,.func (fnOf "law" "law" params body scope dV kV doc pm an cdv ct),sl⟩) (e3:codeIn K cdv "law" = true) ..:∃ t,My.Txt K t
set_option maxRecDepth 100000 in
set_option maxHeartbeats 0 in
theorem PySem.Challenge.cw_LID_holds : PySem.Challenge.rw_LID.Holds := by
 w_on;o_law;k_head;(case hw=>w_witness2)
 k_fill
 refine L2.walk_of (l:=PySem.Challenge.rw_LID) (n:=63) (k:=40) (x:="script") (CX:=fun w=>..) (sp:=fun _=>My.sp_law) rfl (by decide) rfl ⟨rfl,by decide,by decide⟩ (fun w h Y=>PySem.W.kIn_of Y) ?F ?S ?C
 case F=>
  intro w mg fa h KX G hmg
  have T:∃ t,My.Txt (L2.KOf KX) t:=by
   dsimp only [L2.KOf]                          -- K must stand as «<heap const> w.params» for k_is
   refine' My.txt_mk ?e1 ?e2 ?e3 ..
   (case e1=>PySem.W.k_is)                    -- in the order: a name->its address->its object->its parts
   (case e2=>PySem.W.k_is)
   ..
  obtain ⟨t,T⟩:=T
  have e0:=hmg.symm.trans (PySem.W.mg_of KX G T.law)
  cases e0                                       -- fa is the law's own address
  exact ⟨_,fun s u=>.of_eq rfl,fun base kb nb=>My.law_fn T kb nb⟩     -- if «.of_eq rfl» comes too early: refine' ⟨_,?b,fun base kb nb=>My.law_fn T kb nb⟩;exact fun s u=>.of_eq rfl
 case S=>exact fun w H a ns hl hO hS=>..
 case C=>exact ..
(the tactic k_is has no namespace: write k_is) -/
namespace L2
open PySem PySem.Spec PyProof.Rows
noncomputable def defArgs (s:Stmt):Arguments:=match s with
 | .FunctionDef _ a _ _ _ _ _ _ _ _=>a
 | _=>{ posonlyargs:=[],args:=[],vararg:=none,kwonlyargs:=[],kw_defaults:=[],kwarg:=none,defaults:=[] }
noncomputable def defBody (s:Stmt):List Stmt:=match s with
 | .FunctionDef _ _ b _ _ _ _ _ _ _=>b
 | _=>[]
noncomputable def defScope (s:Stmt):Scope:=match s with
 | .FunctionDef _ _ _ _ _ _ sc _ _ _=>sc
 | _=>{ kind:=.function,names:=[],isGenerator:=false,isCoroutine:=false }
noncomputable abbrev CX0:CXT:=fun _ _ _ _ _ _=>False
noncomputable abbrev E0:XK:=fun _ _ _=>False
theorem pass0 {X:Cx}:Passes CX0 X E0:=fun _ _ _ _ _ _ _ h=>h.elim
structure Fun (K:PySem.W.Frag)(x qual:Str)(st:Stmt)(f:Addr)(fd:FuncData):Prop where
 ex:∃ (oc:Value)(od:Option Addr)(kV doc pm:Value)(an:Option Addr)(cdv ct:Value)(osl:Array (Option Value)),
  fd=PySem.W.fnOf x qual (defArgs st) (defBody st) (defScope st) .none kV doc pm an cdv ct/\K.lookup f=some ⟨oc,od,.func fd,osl⟩/\PySem.W.codeIn K cdv qual=true
 kp:PySem.W.keepIn K (.ref f)=true
section
variable {P:Program}{w:World}{K:PySem.W.Frag}{mg:Str->Option Value}{base:Heap}
theorem Fun.ok {x qual:Str}{st:Stmt}{f:Addr}{fd:FuncData}{N ps:List Str}{k:Nat}{sp:Sp}(F:Fun K x qual st f fd)(S:FnScope N ps (defScope st))(len:∀ vs H Q E,sp vs H Q E->vs.length=ps.length)
  (hbody:∀ (cdv:Value)(A:Around)(outer:List Env)(s:Shared)(H:Hp)(vs:List V)(Q:VK)(E:XK),Room k (A.deeper (envOfC qual (defScope st) s.heap.objs.size f cdv))->sp vs H Q E->
   ∃ t,PSs (cxOf CX0 P w K mg base N qual (defScope st) f cdv A outer s H E).nox (defBody st) t/\t { nx:=fun _ H'=>Q .non H',rt:=Q } (start N vs) H):FnOk P w K mg base CX0 (k+1) f fd ps sp:=by
 obtain ⟨oc,od,kV,doc,pm,an,cdv,ct,osl,rfl,lk,hcd⟩:=F.ex
 refine fn_of lk hcd S len fun A outer s H vs Q E hr hsp=>?_
 obtain ⟨t,h,q⟩:=hbody cdv A outer s H vs Q E hr hsp
 exact ⟨t,h.nox,q⟩
theorem Fun.binds {x qual:Str}{st:Stmt}{f:Addr}{fd:FuncData}{ps:List Str}(F:Fun K x qual st f fd)
  (h:∀ (kV doc pm:Value)(an:Option Addr)(cdv ct:Value)(us:List Value),us.length=ps.length->bindArgs (PySem.W.fnOf x qual (defArgs st) (defBody st) (defScope st) .none kV doc pm an cdv ct) ⟨us,[]⟩=pure (ps.zip us)):Binds K fd ps []:=by
 obtain ⟨oc,od,kV,doc,pm,an,cdv,ct,osl,rfl,lk,hcd⟩:=F.ex
 exact .all (h kV doc pm an cdv ct)
theorem fun_mk {x qual:Str}{st:Stmt}{f:Addr}{oc:Value}{od an:Option Addr}{osl:Array (Option Value)}{kV doc pm cdv ct:Value}(l:K.lookup f=some ⟨oc,od,.func (PySem.W.fnOf x qual (defArgs st) (defBody st) (defScope st) .none kV doc pm an cdv ct),osl⟩)
  (c:PySem.W.codeIn K cdv qual=true)(k:PySem.W.keepIn K (.ref f)=true):Fun K x qual st f (PySem.W.fnOf x qual (defArgs st) (defBody st) (defScope st) .none kV doc pm an cdv ct):=⟨⟨oc,od,kV,doc,pm,an,cdv,ct,osl,rfl,l,c⟩,k⟩
end
theorem hu_of {A:Around}{k:Nat}(hr:Room k A):A.units+1<cLine:=Nat.lt_of_le_of_lt (Nat.add_le_add_left (by decide:1<=64) _) hr.units
section
variable {X:Cx}
theorem call_lenD:CallR X (.builtin "len") (fun xs H Q=>∃ a kvs,xs=[V.ref a]/\H a=some (.dK kvs)/\Q (.int kvs.length) H):=by
 intro pins s σ H xs us Q I r h
 obtain ⟨a,kvs,rfl,ha,q⟩:=h
 obtain ⟨u,rfl,ru⟩:=vals1 r
 cases ru
 exact d_len I (.inl ha) fun t s' I'=>⟨.int kvs.length,H,I',⟨t,rfl⟩,q⟩
end
theorem iteF {A B:Prop}(h:B):if false=true then A else B:=by
 rw [if_neg Bool.false_ne_true]
 exact h
theorem iteT {A B:Prop}(h:A):if true=true then A else B:=by
 rw [if_pos rfl]
 exact h
noncomputable def Same (H H':Hp):Prop:=∀ b o,H b=some o->H' b=some o
theorem Same.trans {H H1 H2:Hp}(a:Same H H1)(b:Same H1 H2):Same H H2:=fun c o h=>b c o (a c o h)
theorem Same.free {H H':Hp}(e:Same H H'){l:Addr}(h:H' l=Option.none):H l=Option.none:=by
 cases q:H l with
 | none=>rfl
 | some o=>
  rw [e l o q] at h
  cases h
theorem Same.seq {K:PySem.W.Frag}{H H':Hp}{a:Addr}{xs:List V}(e:Same H H')(h:SqL K H a xs):SqL K H' a xs:=by
 rcases h with (h|⟨o,h⟩)|h
 ·exact .inl (.inl (e _ _ h))
 ·exact .inl (.inr ⟨o,e _ _ h⟩)
 ·exact .inr h
section
variable {κ:Type} [DecidableEq κ]
end
end L2
namespace Lw
open PySem L2
noncomputable def top (i:Nat):Stmt:=PySem.Challenge.pw_creasecourt_k45_whole_whichever_way.main.body.getD i (.Pass ⟨0,0,0,0⟩)
noncomputable def Vw:Program:={ PySem.Challenge.pw_creasecourt_k45_whole_whichever_way with main:={ PySem.Challenge.pw_creasecourt_k45_whole_whichever_way.main with body:=top 1::top 2::top 4::top 5::top 6::top 7::top 8::top 9::top 10::top 11::top 12::top 13::top 14::top 15::top 16::top 18::top 19::top 20::top 21::top 22::top 23::top 25::top 27::top 28::top 29::top 30::top 32::top 33::top 34::top 35::top 36::top 38::top 40::top 41::top 42::top 43::top 44::top 45::top 46::top 47::top 48::top 49::top 50::top 51::top 52::top 53::top 54::top 55::[] } }
noncomputable abbrev vS (x:String)(n:Nat):Value:=Value.str (Str.ofString x) n
noncomputable abbrev vI (i:Int):Value:=Value.int i 0
noncomputable abbrev vR (a:Addr):Value:=Value.ref a
noncomputable abbrev vN:Value:=Value.none
noncomputable abbrev cO (fs:Array Value):Obj:={ cls:=Value.type "code",data:=Data.fields fs }
noncomputable abbrev tO (fs:Array Value):Obj:={ cls:=Value.type "tuple",data:=Data.seq fs }
noncomputable abbrev fO (x:Str)(n:Nat)(m:Value)(c:Addr):Obj:=⟨Value.type "function",none,.func (PySem.W.fnOf x x (defArgs (top n)) (defBody (top n)) (defScope (top n)) Value.none Value.none Value.none m none (Value.ref c) Value.none),#[]⟩
noncomputable abbrev eO (P:PySem.Params)(x:String)(n:Nat)(v:Value):DictEntry:={ hash:=PyData.keyHash P (Str.ofString x),key:=Value.str (Str.ofString x) n,val:=v }
noncomputable def Kx:PySem.Params → PySem.W.Frag:=fun P=>(nat_lit 3,{ cls:=Value.type "dict",data:=Data.dict #[eO P "__name__" 165 (vS "law_creasecourt_k45_whole_whichever_way" 492),eO P "__doc__" 166 vN,eO P "__package__" 167 vN,eO P "__loader__" 168 (Value.builtin "__main__.__loader__#opaque"),eO P "__spec__" 169 vN,eO P "__annotations__" 170 (vR 6),eO P "__builtins__" 171 (vR 4),eO P "__file__" 173 (vS "/claim/cut.py" 172),eO P "__cached__" 174 vN,eO P "CreaseError" 206 (vR 24),eO P "Barred" 231 (vR 44),eO P "EIGHT_EDGES" 256 (vR 55),eO P "FOUR_EDGES" 269 (vR 60),eO P "is_whole" 276 (vR 67),eO P "is_corner" 283 (vR 74),eO P "is_edge" 290 (vR 81),eO P "is_quarter" 297 (vR 88),eO P "line_of" 304 (vR 95),eO P "beside" 313 (vR 102),eO P "edges_of" 319 (vR 107),eO P "moved_by" 325 (vR 112),eO P "edges_round" 332 (vR 119),eO P "number_by" 340 (vR 126),eO P "mirrored" 352 (vR 133),eO P "is_within" 363 (vR 140),eO P "places_within" 369 (vR 145),eO P "quarters_in" 375 (vR 150),eO P "corners_in" 381 (vR 155),eO P "neighbours_in" 387 (vR 160),eO P "marks_in" 394 (vR 167),eO P "is_good" 402 (vR 172),eO P "creases_at" 410 (vR 177),eO P "gaps_at" 416 (vR 182),eO P "barred" 424 (vR 189),eO P "check_corners" 432 (vR 196),eO P "STILL" 441 (vR 197),eO P "laying_by" 450 (vR 204),eO P "mirror_in" 457 (vR 211),eO P "led" 467 (vR 218),eO P "then" 475 (vR 225),eO P "laid" 491 (vR 232),eO P "_law_cell" 502 (vR 239),eO P "_law_inner" 513 (vR 246),eO P "_law_line" 522 (vR 253),eO P "_law_beside" 531 (vR 260),eO P "_law_quarters" 542 (vR 267),eO P "_law_led" 556 (vR 274),eO P "_law_over" 572 (vR 281),eO P "_law_value" 580 (vR 288),eO P "_law_grown" 596 (vR 295),eO P "_law_by_lines" 608 (vR 302),eO P "_law_creased" 614 (vR 307),eO P "_law_sheet_by_digits" 626 (vR 314),eO P "_law_sheet" 641 (vR 321),eO P "_law_edges_of" 650 (vR 328),eO P "_law_ahead" 666 (vR 335),eO P "law" 672 (vR 340)] 57 }) ::
 (nat_lit 47,tO #[Value.int 2 234,Value.int 0 235]) ::
 (nat_lit 48,tO #[Value.int 1 236,Value.int 1 237]) ::
 (nat_lit 49,tO #[Value.int 0 238,Value.int 2 239]) ::
 (nat_lit 50,tO #[Value.int (-1) 241,Value.int 1 242]) ::
 (nat_lit 51,tO #[Value.int (-2) 244,Value.int 0 245]) ::
 (nat_lit 52,tO #[Value.int (-1) 247,Value.int (-1) 249]) ::
 (nat_lit 53,tO #[Value.int 0 250,Value.int (-2) 252]) ::
 (nat_lit 54,tO #[Value.int 1 253,Value.int (-1) 255]) ::
 (nat_lit 55,tO #[vR 47,vR 48,vR 49,vR 50,vR 51,vR 52,vR 53,vR 54]) ::
 (nat_lit 56,tO #[Value.int 1 257,Value.int 1 258]) ::
 (nat_lit 57,tO #[Value.int (-1) 260,Value.int 1 261]) ::
 (nat_lit 58,tO #[Value.int (-1) 263,Value.int (-1) 265]) ::
 (nat_lit 59,tO #[Value.int 1 266,Value.int (-1) 268]) ::
 (nat_lit 60,tO #[vR 56,vR 57,vR 58,vR 59]) ::
 (nat_lit 66,cO #[vS "is_whole" 270,vS "is_whole" 271,vS "/claim/cut.py" 272,vI 12,vI 1,vI 0,vI 0,vI 3,vR 61,Value.bool true,vI 181,vR 62,vN,vR 63,vR 64,vR 65,vI 274,vI 12,vS "/claim/cut.py" 275]) ::
 (nat_lit 67,fO "is_whole" 6 (vS "creasecourt.places" 232) 66) ::
 (nat_lit 73,cO #[vS "is_corner" 277,vS "is_corner" 278,vS "/claim/cut.py" 279,vI 14,vI 1,vI 0,vI 0,vI 3,vR 68,Value.bool true,vI 181,vR 69,vN,vR 70,vR 71,vR 72,vI 281,vI 14,vS "/claim/cut.py" 282]) ::
 (nat_lit 74,fO "is_corner" 7 (vS "creasecourt.places" 232) 73) ::
 (nat_lit 80,cO #[vS "is_edge" 284,vS "is_edge" 285,vS "/claim/cut.py" 286,vI 16,vI 1,vI 0,vI 0,vI 3,vR 75,Value.bool true,vI 181,vR 76,vN,vR 77,vR 78,vR 79,vI 288,vI 16,vS "/claim/cut.py" 289]) ::
 (nat_lit 81,fO "is_edge" 8 (vS "creasecourt.places" 232) 80) ::
 (nat_lit 87,cO #[vS "is_quarter" 291,vS "is_quarter" 292,vS "/claim/cut.py" 293,vI 20,vI 1,vI 0,vI 0,vI 3,vR 82,Value.bool true,vI 181,vR 83,vN,vR 84,vR 85,vR 86,vI 295,vI 20,vS "/claim/cut.py" 296]) ::
 (nat_lit 88,fO "is_quarter" 9 (vS "creasecourt.places" 232) 87) ::
 (nat_lit 94,cO #[vS "line_of" 298,vS "line_of" 299,vS "/claim/cut.py" 300,vI 24,vI 1,vI 0,vI 0,vI 3,vR 89,Value.bool true,vI 181,vR 90,vN,vR 91,vR 92,vR 93,vI 302,vI 24,vS "/claim/cut.py" 303]) ::
 (nat_lit 95,fO "line_of" 10 (vS "creasecourt.places" 232) 94) ::
 (nat_lit 101,cO #[vS "beside" 305,vS "beside" 306,vS "/claim/cut.py" 307,vI 28,vI 1,vI 0,vI 0,vI 3,vR 96,Value.bool true,vI 181,vR 97,vN,vR 98,vR 99,vR 100,vI 311,vI 28,vS "/claim/cut.py" 312]) ::
 (nat_lit 102,fO "beside" 11 (vS "creasecourt.places" 232) 101) ::
 (nat_lit 106,cO #[vS "edges_of" 314,vS "edges_of" 315,vS "/claim/cut.py" 316,vI 32,vI 1,vI 0,vI 0,vI 3,vR 103,Value.bool true,vI 181,vR 104,vN,vN,vN,vR 105,vI 317,vI 32,vS "/claim/cut.py" 318]) ::
 (nat_lit 107,fO "edges_of" 12 (vS "creasecourt.places" 232) 106) ::
 (nat_lit 111,cO #[vS "moved_by" 320,vS "moved_by" 321,vS "/claim/cut.py" 322,vI 34,vI 2,vI 0,vI 0,vI 3,vR 108,Value.bool true,vI 181,vR 109,vN,vN,vN,vR 110,vI 323,vI 34,vS "/claim/cut.py" 324]) ::
 (nat_lit 112,fO "moved_by" 13 (vS "creasecourt.places" 232) 111) ::
 (nat_lit 118,cO #[vS "edges_round" 326,vS "edges_round" 327,vS "/claim/cut.py" 328,vI 36,vI 1,vI 0,vI 0,vI 3,vR 113,Value.bool true,vI 181,vR 114,vN,vR 115,vR 116,vR 117,vI 330,vI 36,vS "/claim/cut.py" 331]) ::
 (nat_lit 119,fO "edges_round" 14 (vS "creasecourt.places" 232) 118) ::
 (nat_lit 125,cO #[vS "number_by" 333,vS "number_by" 334,vS "/claim/cut.py" 335,vI 38,vI 2,vI 0,vI 0,vI 3,vR 120,Value.bool true,vI 181,vR 121,vN,vR 122,vR 123,vR 124,vI 338,vI 38,vS "/claim/cut.py" 339]) ::
 (nat_lit 126,fO "number_by" 15 (vS "creasecourt.places" 232) 125) ::
 (nat_lit 132,cO #[vS "mirrored" 341,vS "mirrored" 342,vS "/claim/cut.py" 343,vI 46,vI 2,vI 0,vI 0,vI 3,vR 127,Value.bool true,vI 181,vR 128,vN,vR 129,vR 130,vR 131,vI 350,vI 46,vS "/claim/cut.py" 351]) ::
 (nat_lit 133,fO "mirrored" 16 (vS "creasecourt.places" 232) 132) ::
 (nat_lit 139,cO #[vS "is_within" 355,vS "is_within" 356,vS "/claim/cut.py" 357,vI 59,vI 3,vI 0,vI 0,vI 3,vR 134,Value.bool true,vI 181,vR 135,vN,vR 136,vR 137,vR 138,vI 361,vI 59,vS "/claim/cut.py" 362]) ::
 (nat_lit 140,fO "is_within" 18 (vS "creasecourt.sheets" 353) 139) ::
 (nat_lit 144,cO #[vS "places_within" 364,vS "places_within" 365,vS "/claim/cut.py" 366,vI 61,vI 2,vI 0,vI 0,vI 3,vR 141,Value.bool true,vI 181,vR 142,vN,vN,vN,vR 143,vI 367,vI 61,vS "/claim/cut.py" 368]) ::
 (nat_lit 145,fO "places_within" 19 (vS "creasecourt.sheets" 353) 144) ::
 (nat_lit 149,cO #[vS "quarters_in" 370,vS "quarters_in" 371,vS "/claim/cut.py" 372,vI 66,vI 2,vI 0,vI 0,vI 3,vR 146,Value.bool true,vI 181,vR 147,vN,vN,vN,vR 148,vI 373,vI 66,vS "/claim/cut.py" 374]) ::
 (nat_lit 150,fO "quarters_in" 20 (vS "creasecourt.sheets" 353) 149) ::
 (nat_lit 154,cO #[vS "corners_in" 376,vS "corners_in" 377,vS "/claim/cut.py" 378,vI 68,vI 2,vI 0,vI 0,vI 3,vR 151,Value.bool true,vI 181,vR 152,vN,vN,vN,vR 153,vI 379,vI 68,vS "/claim/cut.py" 380]) ::
 (nat_lit 155,fO "corners_in" 21 (vS "creasecourt.sheets" 353) 154) ::
 (nat_lit 159,cO #[vS "neighbours_in" 382,vS "neighbours_in" 383,vS "/claim/cut.py" 384,vI 70,vI 3,vI 0,vI 0,vI 3,vR 156,Value.bool true,vI 181,vR 157,vN,vN,vN,vR 158,vI 385,vI 70,vS "/claim/cut.py" 386]) ::
 (nat_lit 160,fO "neighbours_in" 22 (vS "creasecourt.sheets" 353) 159) ::
 (nat_lit 166,cO #[vS "marks_in" 388,vS "marks_in" 389,vS "/claim/cut.py" 390,vI 72,vI 1,vI 0,vI 0,vI 3,vR 161,Value.bool true,vI 181,vR 162,vN,vR 163,vR 164,vR 165,vI 392,vI 72,vS "/claim/cut.py" 393]) ::
 (nat_lit 167,fO "marks_in" 23 (vS "creasecourt.sheets" 353) 166) ::
 (nat_lit 171,cO #[vS "is_good" 397,vS "is_good" 398,vS "/claim/cut.py" 399,vI 75,vI 1,vI 0,vI 0,vI 3,vR 168,Value.bool true,vI 181,vR 169,vN,vN,vN,vR 170,vI 400,vI 75,vS "/claim/cut.py" 401]) ::
 (nat_lit 172,fO "is_good" 25 (vS "creasecourt.wedges" 395) 171) ::
 (nat_lit 176,cO #[vS "creases_at" 405,vS "creases_at" 406,vS "/claim/cut.py" 407,vI 82,vI 2,vI 0,vI 0,vI 3,vR 173,Value.bool true,vI 181,vR 174,vN,vN,vN,vR 175,vI 408,vI 82,vS "/claim/cut.py" 409]) ::
 (nat_lit 177,fO "creases_at" 27 (vS "creasecourt.corners" 403) 176) ::
 (nat_lit 181,cO #[vS "gaps_at" 411,vS "gaps_at" 412,vS "/claim/cut.py" 413,vI 85,vI 2,vI 0,vI 0,vI 3,vR 178,Value.bool true,vI 181,vR 179,vN,vN,vN,vR 180,vI 414,vI 85,vS "/claim/cut.py" 415]) ::
 (nat_lit 182,fO "gaps_at" 28 (vS "creasecourt.corners" 403) 181) ::
 (nat_lit 188,cO #[vS "barred" 417,vS "barred" 418,vS "/claim/cut.py" 419,vI 92,vI 1,vI 0,vI 0,vI 3,vR 183,Value.bool true,vI 181,vR 184,vN,vR 185,vR 186,vR 187,vI 422,vI 92,vS "/claim/cut.py" 423]) ::
 (nat_lit 189,fO "barred" 29 (vS "creasecourt.corners" 403) 188) ::
 (nat_lit 195,cO #[vS "check_corners" 425,vS "check_corners" 426,vS "/claim/cut.py" 427,vI 97,vI 1,vI 0,vI 0,vI 3,vR 190,Value.bool true,vI 181,vR 191,vN,vR 192,vR 193,vR 194,vI 430,vI 97,vS "/claim/cut.py" 431]) ::
 (nat_lit 196,fO "check_corners" 30 (vS "creasecourt.corners" 403) 195) ::
 (nat_lit 197,tO #[Value.int 1 435,Value.int 0 436,Value.int 0 437,Value.int 1 438,Value.int 0 439,Value.int 0 440]) ::
 (nat_lit 203,cO #[vS "laying_by" 442,vS "laying_by" 443,vS "/claim/cut.py" 444,vI 103,vI 3,vI 0,vI 0,vI 3,vR 198,Value.bool true,vI 181,vR 199,vN,vR 200,vR 201,vR 202,vI 448,vI 103,vS "/claim/cut.py" 449]) ::
 (nat_lit 204,fO "laying_by" 33 (vS "creasecourt.layings" 433) 203) ::
 (nat_lit 210,cO #[vS "mirror_in" 451,vS "mirror_in" 452,vS "/claim/cut.py" 453,vI 105,vI 1,vI 0,vI 0,vI 3,vR 205,Value.bool true,vI 181,vR 206,vN,vR 207,vR 208,vR 209,vI 455,vI 105,vS "/claim/cut.py" 456]) ::
 (nat_lit 211,fO "mirror_in" 34 (vS "creasecourt.layings" 433) 210) ::
 (nat_lit 217,cO #[vS "led" 458,vS "led" 459,vS "/claim/cut.py" 460,vI 107,vI 2,vI 0,vI 0,vI 3,vR 212,Value.bool true,vI 181,vR 213,vN,vR 214,vR 215,vR 216,vI 465,vI 107,vS "/claim/cut.py" 466]) ::
 (nat_lit 218,fO "led" 35 (vS "creasecourt.layings" 433) 217) ::
 (nat_lit 224,cO #[vS "then" 468,vS "then" 469,vS "/claim/cut.py" 470,vI 111,vI 2,vI 0,vI 0,vI 3,vR 219,Value.bool true,vI 181,vR 220,vN,vR 221,vR 222,vR 223,vI 473,vI 111,vS "/claim/cut.py" 474]) ::
 (nat_lit 225,fO "then" 36 (vS "creasecourt.layings" 433) 224) ::
 (nat_lit 231,cO #[vS "laid" 478,vS "laid" 479,vS "/claim/cut.py" 480,vI 114,vI 1,vI 0,vI 0,vI 3,vR 226,Value.bool true,vI 181,vR 227,vN,vR 228,vR 229,vR 230,vI 489,vI 114,vS "/claim/cut.py" 490]) ::
 (nat_lit 232,fO "laid" 38 (vS "creasecourt.laid" 476) 231) ::
 (nat_lit 238,cO #[vS "_law_cell" 494,vS "_law_cell" 495,vS "/claim/cut.py" 496,vI 128,vI 2,vI 0,vI 0,vI 3,vR 233,Value.bool true,vI 181,vR 234,vN,vR 235,vR 236,vR 237,vI 500,vI 128,vS "/claim/cut.py" 501]) ::
 (nat_lit 239,fO "_law_cell" 40 (vS "law_creasecourt_k45_whole_whichever_way" 492) 238) ::
 (nat_lit 245,cO #[vS "_law_inner" 503,vS "_law_inner" 504,vS "/claim/cut.py" 505,vI 135,vI 2,vI 0,vI 0,vI 3,vR 240,Value.bool true,vI 181,vR 241,vN,vR 242,vR 243,vR 244,vI 511,vI 135,vS "/claim/cut.py" 512]) ::
 (nat_lit 246,fO "_law_inner" 41 (vS "law_creasecourt_k45_whole_whichever_way" 492) 245) ::
 (nat_lit 252,cO #[vS "_law_line" 514,vS "_law_line" 515,vS "/claim/cut.py" 516,vI 142,vI 1,vI 0,vI 0,vI 3,vR 247,Value.bool true,vI 181,vR 248,vN,vR 249,vR 250,vR 251,vI 520,vI 142,vS "/claim/cut.py" 521]) ::
 (nat_lit 253,fO "_law_line" 42 (vS "law_creasecourt_k45_whole_whichever_way" 492) 252) ::
 (nat_lit 259,cO #[vS "_law_beside" 523,vS "_law_beside" 524,vS "/claim/cut.py" 525,vI 151,vI 1,vI 0,vI 0,vI 3,vR 254,Value.bool true,vI 181,vR 255,vN,vR 256,vR 257,vR 258,vI 529,vI 151,vS "/claim/cut.py" 530]) ::
 (nat_lit 260,fO "_law_beside" 43 (vS "law_creasecourt_k45_whole_whichever_way" 492) 259) ::
 (nat_lit 266,cO #[vS "_law_quarters" 532,vS "_law_quarters" 533,vS "/claim/cut.py" 534,vI 158,vI 2,vI 0,vI 0,vI 3,vR 261,Value.bool true,vI 181,vR 262,vN,vR 263,vR 264,vR 265,vI 540,vI 158,vS "/claim/cut.py" 541]) ::
 (nat_lit 267,fO "_law_quarters" 44 (vS "law_creasecourt_k45_whole_whichever_way" 492) 266) ::
 (nat_lit 273,cO #[vS "_law_led" 543,vS "_law_led" 544,vS "/claim/cut.py" 545,vI 165,vI 2,vI 0,vI 0,vI 3,vR 268,Value.bool true,vI 181,vR 269,vN,vR 270,vR 271,vR 272,vI 554,vI 165,vS "/claim/cut.py" 555]) ::
 (nat_lit 274,fO "_law_led" 45 (vS "law_creasecourt_k45_whole_whichever_way" 492) 273) ::
 (nat_lit 280,cO #[vS "_law_over" 557,vS "_law_over" 558,vS "/claim/cut.py" 559,vI 168,vI 2,vI 0,vI 0,vI 3,vR 275,Value.bool true,vI 181,vR 276,vN,vR 277,vR 278,vR 279,vI 570,vI 168,vS "/claim/cut.py" 571]) ::
 (nat_lit 281,fO "_law_over" 46 (vS "law_creasecourt_k45_whole_whichever_way" 492) 280) ::
 (nat_lit 287,cO #[vS "_law_value" 573,vS "_law_value" 574,vS "/claim/cut.py" 575,vI 178,vI 2,vI 0,vI 0,vI 3,vR 282,Value.bool true,vI 181,vR 283,vN,vR 284,vR 285,vR 286,vI 578,vI 178,vS "/claim/cut.py" 579]) ::
 (nat_lit 288,fO "_law_value" 47 (vS "law_creasecourt_k45_whole_whichever_way" 492) 287) ::
 (nat_lit 294,cO #[vS "_law_grown" 581,vS "_law_grown" 582,vS "/claim/cut.py" 583,vI 180,vI 3,vI 0,vI 0,vI 3,vR 289,Value.bool true,vI 181,vR 290,vN,vR 291,vR 292,vR 293,vI 594,vI 180,vS "/claim/cut.py" 595]) ::
 (nat_lit 295,fO "_law_grown" 48 (vS "law_creasecourt_k45_whole_whichever_way" 492) 294) ::
 (nat_lit 301,cO #[vS "_law_by_lines" 597,vS "_law_by_lines" 598,vS "/claim/cut.py" 599,vI 193,vI 2,vI 0,vI 0,vI 3,vR 296,Value.bool true,vI 181,vR 297,vN,vR 298,vR 299,vR 300,vI 606,vI 193,vS "/claim/cut.py" 607]) ::
 (nat_lit 302,fO "_law_by_lines" 49 (vS "law_creasecourt_k45_whole_whichever_way" 492) 301) ::
 (nat_lit 306,cO #[vS "_law_creased" 609,vS "_law_creased" 610,vS "/claim/cut.py" 611,vI 200,vI 4,vI 0,vI 0,vI 3,vR 303,Value.bool true,vI 181,vR 304,vN,vN,vN,vR 305,vI 612,vI 200,vS "/claim/cut.py" 613]) ::
 (nat_lit 307,fO "_law_creased" 50 (vS "law_creasecourt_k45_whole_whichever_way" 492) 306) ::
 (nat_lit 313,cO #[vS "_law_sheet_by_digits" 615,vS "_law_sheet_by_digits" 616,vS "/claim/cut.py" 617,vI 223,vI 3,vI 0,vI 0,vI 3,vR 308,Value.bool true,vI 181,vR 309,vN,vR 310,vR 311,vR 312,vI 624,vI 223,vS "/claim/cut.py" 625]) ::
 (nat_lit 314,fO "_law_sheet_by_digits" 51 (vS "law_creasecourt_k45_whole_whichever_way" 492) 313) ::
 (nat_lit 320,cO #[vS "_law_sheet" 627,vS "_law_sheet" 628,vS "/claim/cut.py" 629,vI 231,vI 3,vI 0,vI 0,vI 3,vR 315,Value.bool true,vI 181,vR 316,vN,vR 317,vR 318,vR 319,vI 639,vI 231,vS "/claim/cut.py" 640]) ::
 (nat_lit 321,fO "_law_sheet" 52 (vS "law_creasecourt_k45_whole_whichever_way" 492) 320) ::
 (nat_lit 327,cO #[vS "_law_edges_of" 642,vS "_law_edges_of" 643,vS "/claim/cut.py" 644,vI 241,vI 1,vI 0,vI 0,vI 3,vR 322,Value.bool true,vI 181,vR 323,vN,vR 324,vR 325,vR 326,vI 648,vI 241,vS "/claim/cut.py" 649]) ::
 (nat_lit 328,fO "_law_edges_of" 53 (vS "law_creasecourt_k45_whole_whichever_way" 492) 327) ::
 (nat_lit 334,cO #[vS "_law_ahead" 651,vS "_law_ahead" 652,vS "/claim/cut.py" 653,vI 246,vI 2,vI 0,vI 0,vI 3,vR 329,Value.bool true,vI 181,vR 330,vN,vR 331,vR 332,vR 333,vI 664,vI 246,vS "/claim/cut.py" 665]) ::
 (nat_lit 335,fO "_law_ahead" 54 (vS "law_creasecourt_k45_whole_whichever_way" 492) 334) ::
 (nat_lit 339,cO #[vS "law" 667,vS "law" 668,vS "/claim/cut.py" 669,vI 256,vI 1,vI 0,vI 0,vI 3,vR 336,Value.bool true,vI 181,vR 337,vN,vN,vN,vR 338,vI 670,vI 256,vS "/claim/cut.py" 671]) ::
 (nat_lit 340,fO "law" 55 (vS "law_creasecourt_k45_whole_whichever_way" 492) 339)::[]
noncomputable def As:List Addr:=[3,47,48,49,50,51,52,53,54,55,56,57,58,59,60,66,67,73,74,80,81,87,88,94,95,101,102,106,107,111,112,118,119,125,126,132,133,139,140,144,145,149,150,154,155,159,160,166,167,171,172,176,177,181,182,188,189,195,196,197,203,204,210,211,217,218,224,225,231,232,238,239,245,246,252,253,259,260,266,267,273,274,280,281,287,288,294,295,301,302,306,307,313,314,320,321,327,328,334,335,339,340]
theorem ks_eq:∀ P,As=(Kx P).map (·.1):=fun _=>by kernel_rfl
open PySem.W PyProof.Rows in
theorem run:LeftO (OpenLaw.row PySem.Challenge.rw_creasecourt_k45_whole_whichever_way).prog Vw [] (fun s=>xlAt Vw [] s&&recOk (RowW.records (OpenRow.toRowW (OpenLaw.row PySem.Challenge.rw_creasecourt_k45_whole_whichever_way))) s) (Hook.obs (kHook Kx As ks_eq)) (Hook.val (kHook Kx As ks_eq)) 4016:=fun w=>by kernel_rfl
end Lw
set_option maxHeartbeats 4000000
namespace L3
open PySem
open PySem.SetTable (Probe Met Slot bits runEnd leap turns insertAt sizeAbove)
namespace Tb
noncomputable def adv (m:Nat)(p:Probe):Probe:=
 if p.more>0 then { p with j:=p.j+1,more:=p.more - 1 } else
 { p with j:=(leap m p.i p.perturb).1,more:=runEnd m (leap m p.i p.perturb).1 - (leap m p.i p.perturb).1,i:=(leap m p.i p.perturb).1,perturb:=(leap m p.i p.perturb).2 }
noncomputable def st0 (m:Nat)(b:Nat):Probe:={ j:=b % (m+1),more:=runEnd m (b % (m+1)) - b % (m+1),i:=b % (m+1),perturb:=b,dummy:=none }
noncomputable def pth (m b:Nat):Nat->Probe
 | 0=>st0 m b
 | k+1=>adv m (pth m b k)
noncomputable def lp (m b:Nat):Nat->Nat×Nat
 | 0=>(b % (m+1),b)
 | n+1=>leap m (lp m b n).1 (lp m b n).2
noncomputable def hd (m i q:Nat):Probe:={ j:=i,more:=runEnd m i - i,i:=i,perturb:=q,dummy:=none }
theorem pth_run {m b k i q:Nat}(h:pth m b k=hd m i q):∀ r,r<=runEnd m i - i->pth m b (k+r) = { j:=i+r,more:=runEnd m i - i - r,i:=i,perturb:=q,dummy:=none }
 | 0,_=>by rw [Nat.add_zero,h];rfl
 | r+1,hr=>by
  have e:=pth_run h r (by omega)
  show adv m (pth m b (k+r))=_
  rw [e]
  unfold adv
  rw [if_pos (show runEnd m i - i - r>0 by omega)]
  show Probe.mk (i+r+1) (runEnd m i - i - r - 1) i q none=_
  rw [Nat.add_assoc,Nat.sub_sub]
theorem pth_leap {m b k i q:Nat}(h:pth m b k=hd m i q):pth m b (k+(runEnd m i - i)+1)=hd m (leap m i q).1 (leap m i q).2:=by
 have e:=pth_run h (runEnd m i - i) (Nat.le_refl _)
 show adv m (pth m b (k+(runEnd m i - i)))=_
 rw [e]
 unfold adv
 rw [if_neg (show ¬ (runEnd m i - i - (runEnd m i - i)>0) by omega)]
 rfl
noncomputable def nx (m i:Nat):Nat:=(i * 5+1) % (m+1)
noncomputable def itn (m:Nat):Nat->Nat->Nat
 | 0,i=>i
 | n+1,i=>itn m n (nx m i)
noncomputable def seen (m:Nat):Nat->Nat->Nat->Nat
 | 0,_,acc=>acc
 | f+1,i,acc=>seen m f (nx m i) (acc ||| (1 <<< i))
noncomputable def covB (m:Nat):Bool:=seen m (m+1) 0 0 == 2 ^ (m+1) - 1&&itn m (m+1) 0 == 0
theorem lp_le (m b:Nat):∀ n,(lp m b n).1<=m
 | 0=>Nat.le_of_lt_succ (Nat.mod_lt _ (Nat.succ_pos _))
 | n+1=>Nat.le_of_lt_succ (Nat.mod_lt _ (Nat.succ_pos _))
noncomputable def Reach (m:Nat)(S:List Nat)(b j:Nat):Prop:=∃ k,(pth m b k).j=j/\∀ k',k'<k->(pth m b k').j∈S
theorem below_go {xs:Array Nat}{j:Nat}(hr:∀ a b,a<b->b<xs.size->xs.getD a 0<xs.getD b 0):∀ (f lo hi:Nat),hi - lo<=f->lo<=hi->hi<=xs.size->(∀ i,i<lo->xs.getD i 0<j)->(∀ i,hi<=i->i<xs.size->j<=xs.getD i 0)->
  SetTable.below.go xs j f lo hi<=xs.size/\(∀ i,i<SetTable.below.go xs j f lo hi->xs.getD i 0<j)/\∀ i,SetTable.below.go xs j f lo hi<=i->i<xs.size->j<=xs.getD i 0
 | 0,lo,hi,hf,h1,h2,a,b=>by
  have e:lo=hi:=by omega
  show lo<=xs.size/\(∀ i,i<lo->_)/\∀ i,lo<=i->_
  exact ⟨by omega,a,by rw [e];exact b⟩
 | f+1,lo,hi,hf,h1,h2,a,b=>by
  unfold SetTable.below.go
  by_cases q:lo<hi
  ·rw [if_pos q]
   dsimp only
   have hm:(lo+hi) / 2<xs.size:=by omega
   have e:xs.getD ((lo+hi) / 2) j=xs.getD ((lo+hi) / 2) 0:=by simp [Array.getD,hm]
   rw [e]
   by_cases c:xs.getD ((lo+hi) / 2) 0<j
   ·rw [if_pos c]
    refine below_go hr f _ _ (by omega) (by omega) h2 (fun i hi'=>?_) b
    rcases Nat.lt_or_ge i ((lo+hi) / 2) with z|z
    ·exact Nat.lt_trans (hr _ _ z hm) c
    ·have:i=(lo+hi) / 2:=by omega
     rw [this];exact c
   ·rw [if_neg c]
    refine below_go hr f _ _ (by omega) (by omega) (by omega) a fun i hi' hs=>?_
    rcases Nat.lt_or_ge ((lo+hi) / 2) i with z|z
    ·have:=hr _ _ z hs;omega
    ·have:i=(lo+hi) / 2:=by omega
     rw [this];omega
  ·rw [if_neg q]
   exact ⟨by omega,a,fun i h hs=>b i (by omega) hs⟩
theorem rise_of {xs:Array Nat}(h:xs.toList.Pairwise (·<·)):∀ a b,a<b->b<xs.size->xs.getD a 0<xs.getD b 0:=fun a b hab hb=>by
 have:=List.pairwise_iff_getElem.mp h a b (by simpa using Nat.lt_trans hab hb) (by simpa using hb) hab
 simpa [Array.getD,hb,Nat.lt_trans hab hb] using this
theorem below_ok {xs:Array Nat}(h:xs.toList.Pairwise (·<·))(j:Nat):SetTable.below xs j<=xs.size/\(∀ i,i<SetTable.below xs j->xs.getD i 0<j)/\∀ i,SetTable.below xs j<=i->i<xs.size->j<=xs.getD i 0:=
 below_go (rise_of h) _ _ _ (by omega) (by omega) (Nat.le_refl _) (fun i z=>absurd z (Nat.not_lt_zero _)) fun i z z2=>by omega
noncomputable abbrev Row:=Nat×Int×Value
structure Ok (t:SetTable)(R:List Row):Prop where
 place:t.place.toList=R.map (·.1)
 dum:t.dummies = #[]
 rise:(R.map (·.1)).Pairwise (·<·)
 le:∀ r∈R,r.1<=t.mask
 cov:covB t.mask=true
 odd:t.mask % 2=1
 room:R.length<=t.mask
 road:∀ r∈R,Reach t.mask (R.map (·.1)) (bits r.2.1) r.1
section
variable {t:SetTable}{R:List Row}
theorem Ok.size (o:Ok t R):t.place.size=R.length:=by
 have:=congrArg List.length o.place
 simpa using this
theorem Ok.uniq (o:Ok t R){r r':Row}(h:r∈R)(h':r'∈R)(e:r.1=r'.1):r=r':=by
 have p:=List.pairwise_map.mp o.rise
 obtain ⟨i,hi,e1⟩:=List.getElem_of_mem h
 obtain ⟨k,hk,e2⟩:=List.getElem_of_mem h'
 rcases Nat.lt_trichotomy i k with z|z|z
 ·have:=List.pairwise_iff_getElem.mp p i k hi hk z
  rw [e1,e2] at this;omega
 ·subst z;rw [<- e1,<- e2]
 ·have:=List.pairwise_iff_getElem.mp p k i hk hi z
  rw [e1,e2] at this;omega
theorem Ok.getD (o:Ok t R){i:Nat}(hi:i<R.length):t.place.getD i 0=(R[i]).1:=by
 have h:t.place.toList[i]? = (R.map (·.1))[i]?:=by rw [o.place]
 have hs:i<t.place.size:=by rw [o.size];exact hi
 simp [hi,hs] at h
 simp [Array.getD,hs,h]
theorem Ok.sorted (o:Ok t R):t.place.toList.Pairwise (·<·):=by rw [o.place];exact o.rise
theorem has_nil (j:Nat):SetTable.has #[] j=false:=by
 unfold SetTable.has
 simp
theorem Ok.live (o:Ok t R){j:Nat}(h:j∈R.map (·.1)):∃ i r,t.slot j=.live i/\R[i]? = some r/\r.1=j:=by
 obtain ⟨r,hr,e⟩:=List.mem_map.mp h
 obtain ⟨i,hi,ei⟩:=List.getElem_of_mem hr
 have b:=below_ok o.sorted j
 have hp:t.place.getD i 0=j:=by rw [o.getD hi,ei];exact e
 have hs:i<t.place.size:=by rw [o.size];exact hi
 have e2:SetTable.below t.place j=i:=by
  rcases Nat.lt_trichotomy (SetTable.below t.place j) i with z|z|z
  ·have h1:=b.2.2 _ (Nat.le_refl _) (by omega)
   have h2:=rise_of o.sorted _ _ z hs
   omega
  ·exact z
  ·have:=b.2.1 i z;omega
 refine ⟨i,r,?_,by rw [<- ei];exact List.getElem?_eq_getElem hi,e⟩
 unfold SetTable.slot
 dsimp only
 rw [e2,if_pos]
 have:t.place[i]? = some j:=by
  rw [Array.getElem?_eq_getElem hs]
  simpa [Array.getD,hs] using hp
 rw [this]
 exact beq_self_eq_true _
theorem Ok.empty (o:Ok t R){j:Nat}(h:j∉R.map (·.1)):t.slot j=.empty:=by
 unfold SetTable.slot
 dsimp only
 rw [if_neg,o.dum,has_nil]
 ·rfl
 ·intro q
  rw [beq_iff_eq] at q
  apply h
  rw [<- o.place]
  exact Array.mem_toList_iff.mpr (Array.mem_of_getElem? q)
theorem pth_dummy (m b:Nat):∀ k,(pth m b k).dummy=none
 | 0=>rfl
 | k+1=>by
  show (adv m (pth m b k)).dummy=none
  unfold adv
  split<;>exact pth_dummy m b k
theorem Ok.go (o:Ok t R)(hashAt:Nat->Int)(hh:∀ i r,R[i]? = some r->hashAt i=r.2.1){h:Int}{K:Nat}(hK:(pth t.mask (bits h) K).j∉R.map (·.1))(hT:∀ k',k'<K->(pth t.mask (bits h) k').j∈R.map (·.1)) :
  ∀ (f k:Nat),k<=K->K<k+f->
   (SetTable.probe.go t hashAt h f (pth t.mask (bits h) k)=some (.empty (pth t.mask (bits h) K).j none)/\∀ k' r,k<=k'->k'<K->r∈R->r.1=(pth t.mask (bits h) k').j->r.2.1≠h) \/
   ∃ k' i r,k<=k'/\k'<K/\R[i]? = some r/\r.1=(pth t.mask (bits h) k').j/\r.2.1=h/\SetTable.probe.go t hashAt h f (pth t.mask (bits h) k)=some (.candidate (pth t.mask (bits h) k').j i (pth t.mask (bits h) (k'+1))) /\
    ∀ k'' r',k<=k''->k''<k'->r'∈R->r'.1=(pth t.mask (bits h) k'').j->r'.2.1≠h
 | 0,k,h1,h2=>by omega
 | f+1,k,h1,h2=>by
  rcases Nat.lt_or_ge k K with z|z
  ·obtain ⟨i,r,e,er,ej⟩:=o.live (hT k z)
   have eg:SetTable.probe.go t hashAt h (f+1) (pth t.mask (bits h) k)=if hashAt i == h then some (.candidate (pth t.mask (bits h) k).j i (pth t.mask (bits h) (k+1))) else SetTable.probe.go t hashAt h f (pth t.mask (bits h) (k+1)):=by
    show (match t.slot (pth t.mask (bits h) k).j with|.empty=>_|.dummy=>_|.live i=>_)=_
    rw [e]
    rfl
   rw [eg,hh i r er]
   have hrm:r∈R:=List.mem_of_getElem? er
   by_cases q:r.2.1=h
   ·refine .inr ⟨k,i,r,Nat.le_refl _,z,er,ej,q,?_,fun k'' r' a b=>by omega⟩
    rw [q,if_pos (beq_self_eq_true _)]
   ·rw [if_neg (by simpa using q)]
    have here:∀ r',r'∈R->r'.1=(pth t.mask (bits h) k).j->r'.2.1≠h:=fun r' hr' e'=>by
     rw [o.uniq hr' hrm (e'.trans ej.symm)];exact q
    rcases Ok.go o hashAt hh hK hT f (k+1) z (by omega) with ⟨a,b⟩|⟨k',i',r',a1,a2,a3,a4,a5,a6,a7⟩
    ·refine .inl ⟨a,fun k' r' c1 c2 hr' e'=>?_⟩
     rcases Nat.lt_or_ge k k' with y|y
     ·exact b k' r' y c2 hr' e'
     ·have:k'=k:=by omega
      subst this;exact here r' hr' e'
    ·refine .inr ⟨k',i',r',by omega,a2,a3,a4,a5,a6,fun k'' r'' c1 c2 hr' e'=>?_⟩
     rcases Nat.lt_or_ge k k'' with y|y
     ·exact a7 k'' r'' y c2 hr' e'
     ·have:k''=k:=by omega
      subst this;exact here r'' hr' e'
  ·have:k=K:=by omega
   subst this
   refine .inl ⟨?_,fun k' r a b=>by omega⟩
   show (match t.slot (pth t.mask (bits h) k).j with|.empty=>_|.dummy=>_|.live i=>_)=_
   rw [o.empty hK]
   show some (Met.empty _ (pth t.mask (bits h) k).dummy)=_
   rw [pth_dummy]
end
noncomputable def lv (m:Nat)(ow:Array (Option Nat)):List (Nat×Nat):=(List.range (m+1)).filterMap fun j=>(ow.getD j none).map (j,·)
theorem mem_lv {m:Nat}{ow:Array (Option Nat)}{j i:Nat}:(j,i)∈lv m ow↔j<=m/\ow.getD j none=some i:=by
 unfold lv
 rw [List.mem_filterMap]
 constructor
 ·rintro ⟨a,ha,e⟩
  rw [Zm] at e
  obtain ⟨b,e1,e2⟩:=e
  cases e2
  exact ⟨by simpa [Nat.lt_succ_iff] using ha,e1⟩
 ·rintro ⟨h1,h2⟩
  exact ⟨j,by simpa [Nat.lt_succ_iff] using h1,by rw [h2];rfl⟩
structure Ow (m:Nat)(ds:List Int)(ow:Array (Option Nat)):Prop where
 size:ow.size=m+1
 lt:∀ j i,ow.getD j none=some i->i<ds.length
 all:∀ i,i<ds.length->∃ j,ow.getD j none=some i
 inj:∀ j j' i,ow.getD j none=some i->ow.getD j' none=some i->j=j'
 road:∀ j i,ow.getD j none=some i->Reach m ((lv m ow).map (·.1)) (bits (ds.getD i 0)) j
section
variable {m:Nat}{ds:List Int}{ow:Array (Option Nat)}
theorem Ow.le (o:Ow m ds ow){j i:Nat}(h:ow.getD j none=some i):j<=m:=by
 rcases Nat.lt_or_ge j ow.size with z|z
 ·rw [o.size] at z;omega
 ·simp [Array.getD,Nat.not_lt.mpr z] at h
theorem Ow.taken (o:Ow m ds ow){j:Nat}(hj:j<=m):j∈(lv m ow).map (·.1)↔(ow.getD j (some 0)).isNone=false:=by
 have hs:j<ow.size:=by rw [o.size];omega
 have e:ow.getD j (some 0)=ow.getD j none:=by simp [Array.getD,hs]
 rw [e]
 constructor
 ·intro q
  obtain ⟨⟨a,i⟩,q2,rfl⟩:=List.mem_map.mp q
  rw [(mem_lv.mp q2).2];rfl
 ·intro q
  cases z:ow.getD j none with
  | none=>rw [z] at q;cases q
  | some i=>exact List.mem_map.mpr ⟨(j,i),mem_lv.mpr ⟨hj,z⟩,rfl⟩
theorem Ow.free (o:Ow m ds ow){b:Nat}:∀ (f n k0:Nat),pth m b k0=hd m (lp m b n).1 (lp m b n).2->(∀ k',k'<k0->(pth m b k').j∈(lv m ow).map (·.1))->(∃ N,n<=N/\N<n+f/\(lp m b N).1∉(lv m ow).map (·.1))->
  ∃ j,SetTable.layClean.free m ow f (lp m b n).1 (lp m b n).2=some j/\j<=m/\j∉(lv m ow).map (·.1)/\Reach m ((lv m ow).map (·.1)) b j
 | 0,n,k0,_,_,⟨N,h1,h2,_⟩=>by omega
 | f+1,n,k0,hk,ht,⟨N,h1,h2,hN⟩=>by
  have hi:=lp_le m b n
  have hre:runEnd m (lp m b n).1<=m:=by unfold runEnd;split<;>omega
  have hri:(lp m b n).1<=runEnd m (lp m b n).1:=by unfold runEnd;split<;>omega
  unfold SetTable.layClean.free
  cases z:(List.range (runEnd m (lp m b n).1+1 - (lp m b n).1)).find? fun k=>(ow.getD ((lp m b n).1+k) (some 0)).isNone with
  | some r=>
   rw [List.find?_range_eq_some] at z
   obtain ⟨z1,z2,z3⟩:=z
   rw [List.mem_range] at z2
   refine ⟨(lp m b n).1+r,rfl,by omega,fun q=>?_,k0+r,by rw [pth_run hk r (by omega)],fun k' hk'=>?_⟩
   ·rw [o.taken (by omega)] at q
    rw [q] at z1;cases z1
   ·rcases Nat.lt_or_ge k' k0 with y|y
    ·exact ht k' y
    ·obtain ⟨d,rfl⟩:=Nat.exists_eq_add_of_le y
     rw [pth_run hk d (by omega)]
     show (lp m b n).1+d∈_
     rw [o.taken (by omega)]
     have:=z3 d (by omega)
     simpa using this
  | none=>
   rw [List.find?_range_eq_none] at z
   have tk:∀ r,r<runEnd m (lp m b n).1+1 - (lp m b n).1->(lp m b n).1+r∈(lv m ow).map (·.1):=fun r hr=>by
    rw [o.taken (by omega)]
    have:=z r hr
    simpa using this
   have ne:N≠n:=fun e=>hN (by rw [e];exact tk 0 (by omega))
   refine Ow.free o f (n+1) _ (pth_leap hk) (fun k' hk'=>?_) ⟨N,by omega,by omega,hN⟩
   rcases Nat.lt_or_ge k' k0 with y|y
   ·exact ht k' y
   ·obtain ⟨d,rfl⟩:=Nat.exists_eq_add_of_le y
    rw [pth_run hk d (by omega)]
    exact tk d (by omega)
end
theorem Ow.nil (m:Nat):Ow m [] (Array.replicate (m+1) none):=by
 have e:∀ j,(Array.replicate (m+1) (none:Option Nat)).getD j none=none:=fun j=>by
  simp [Array.getD]
 have no:∀ {P:Prop}(j i:Nat),(Array.replicate (m+1) (none:Option Nat)).getD j none=some i->P:=fun j i h=>by
  rw [e] at h;exact nomatch h
 exact ⟨by simp,fun j i h=>no j i h,fun i h=>absurd h (Nat.not_lt_zero _),fun j j' i h _=>no j i h,fun j i h=>no j i h⟩
end Tb
end L3
namespace L3
open PySem
open PySem.SetTable (Probe Met Slot bits runEnd leap turns insertAt sizeAbove)
namespace Tb
section
variable {prog:Program}{w:World}{K:Type} [DecidableEq K] {knd:KeyKind prog w K}{A:Around}{E:Value->Shared->Prop}{s:Shared}
theorem fits_of {t:SetTable}{R:List Row}{es:Array (Int×Value)}(o:Ok t R)(he:es.toList=R.map (·.2)):t.fits es.size=true:=by
 have h1:es.size=R.length:=by simpa using congrArg List.length he
 have h2:=o.room
 unfold SetTable.fits SetTable.fill
 rw [o.size,h1,o.dum]
 simp;exact h2
end
section
variable {prog:Program}{w:World}{A:Around}{E:Value->Shared->Prop}{s:Shared}
noncomputable abbrev El:=List Int×Addr
noncomputable def hashT (k:List Int):Int:=reduceHash (Builtin.Tuple.tupleHashOf (k.map hashInt))
noncomputable def ent0 (p:El):Int×Value:=(hashT p.1,Value.ref p.2)
noncomputable def Msk (m:Nat):Prop:=m=7\/m=31\/m=127\/m=511
theorem Msk.cov {m:Nat}(h:Msk m):covB m=true:=by
 rcases h with rfl|rfl|rfl|rfl<;>decide +kernel
theorem Msk.odd {m:Nat}(h:Msk m):m % 2=1:=by
 rcases h with rfl|rfl|rfl|rfl<;>rfl
noncomputable def byText (w:World):Bool:=w.params.followText "set-order"
noncomputable def SObjL (led:Bool)(L:List El)(o:Obj):Prop:=∃ es ep t R,o.ExactSet/\o.data=.set es ep t/\es.toList=R.map (·.2)/\Ok t R/\es.toList.Perm (L.map ent0)/\(L.map (·.1)).Nodup/\Msk t.mask/\L.length * 5<t.mask * 3/\t.plain=true/\t.led=led
noncomputable def SObj (L:List El)(o:Obj):Prop:=∃ led,SObjL led L o
noncomputable def TSet (prog:Program)(w:World)(h:Heap)(a:Addr)(L:List El):Prop:=∃ o,h.get? a=some o/\SObjL (!byText w) L o/\∀ p∈L,IsTupleKey (intKind prog w) h p.1 p.2
end
end Tb
end L3
namespace L3
open PySem
namespace Tb
noncomputable def slotAt (w:World)(t:SetTable):Nat->Nat
 | 0=>0
 | i+1=>if byText w then 0 else t.place.getD i 0+1
section
variable {prog:Program}{w:World}{A:Around}{E:Value->Shared->Prop}{s:Shared}
noncomputable def SIt (w:World)(h:Heap)(I a:Addr)(t:SetTable)(i n ep:Nat):Prop:=∃ o,h.get? I=some o/\o.cls=.type "set_iterator"/\o.data=.fields #[rawInt (slotAt w t i),rawInt i,.ref a,rawInt n,rawInt ep]
theorem SIt.ty {I a:Addr}{t:SetTable}{i n ep:Nat}(x:SIt w s.heap I a t i n ep):s.TypeIs (.ref I) "set_iterator":=let ⟨o,ho,hc,_⟩:=x;⟨o,ho,hc⟩
structure SAt (w:World)(h:Heap)(a:Addr)(es:Array (Int×Value))(ep:Nat)(t:SetTable)(R:List Row):Prop where
 at_:∃ o,h.get? a=some o/\o.cls=.type "set"/\o.data=.set es ep t
 he:es.toList=R.map (·.2)
 ok:Ok t R
 pl:t.plain=true
 led:t.led = !byText w
theorem SAt.ty {a:Addr}{es:Array (Int×Value)}{ep:Nat}{t:SetTable}{R:List Row}(x:SAt w s.heap a es ep t R):s.TypeIs (.ref a) "set":=let ⟨o,ho,hc,_⟩:=x.at_;⟨o,ho,hc⟩
end
end Tb
end L3
namespace L3
open PySem L2
inductive D where
 | non|bl (b:Bool)|int (i:Int)|str (x:Str)|tup (xs:List D)|rol (xs:List D)|loc (a:Nat)|ty (n:String)
 deriving Inhabited
inductive C where
 | lst (xs:List D)
 | dK (kvs:List (Key×D))
 | st (ks:List (List Int))
 | dT (kvs:List (List Int×D))
 deriving Inhabited
noncomputable abbrev Hm:=List C
noncomputable abbrev Rho:=List (Option D)
noncomputable abbrev ME:=Rho->Hm->Option (D×Hm)
noncomputable abbrev MT:=Rho->Hm->Option (Bool×Hm)
noncomputable abbrev MA:=Rho->Hm->Option (List D×Hm)
inductive Fl where
 | nx|rt (d:D)|bk|ct
noncomputable abbrev MS:=Rho->Hm->Option (Fl×Rho×Hm)
noncomputable abbrev MF:=List D->Hm->Option (D×Hm)
noncomputable def RoL (K:PySem.W.Frag)(H:Hp)(p:Addr)(xs:List V):Prop:=
 (∃ o,H p=some (.frz o (.lst xs))) \/
  ∃ (o:Obj)(its:Array Value)(n:Nat),K.lookup p=some o/\o.cls=.type "list"/\o.dict=none/\o.data=.seq its n/\its.size<=sizeLine/\Vals xs its.toList
theorem RoL.sq {K:PySem.W.Frag}{H:Hp}{p:Addr}{xs:List V}(h:RoL K H p xs):SqL K H p xs:=by
 rcases h with ⟨o,h⟩|h
 ·exact .inl (.inr ⟨o,h⟩)
 ·exact .inr h
mutual
inductive IsD (K:PySem.W.Frag)(π:Nat->Addr)(n:Nat)(H:Hp):V->D->Prop where
 | non:IsD K π n H .non .non
 | bl (b:Bool):IsD K π n H (.bl b) (.bl b)
 | int (i:Int):IsD K π n H (.int i) (.int i)
 | str (x:Str):IsD K π n H (.str x) (.str x)
 | tup {p:Addr}{vs:List V}{ds:List D}(h:SqT K H p vs)(t:IsDs K π n H vs ds):IsD K π n H (.ref p) (.tup ds)
 | rol {p:Addr}{vs:List V}{ds:List D}(h:RoL K H p vs)(t:IsDs K π n H vs ds):IsD K π n H (.ref p) (.rol ds)
 | loc {a:Nat}(h:a<n):IsD K π n H (.ref (π a)) (.loc a)
 | ty (x:String):IsD K π n H (.ty x) (.ty x)
inductive IsDs (K:PySem.W.Frag)(π:Nat->Addr)(n:Nat)(H:Hp):List V->List D->Prop where
 | nil:IsDs K π n H [] []
 | cons {v:V}{d:D}{vs:List V}{ds:List D}(h:IsD K π n H v d)(t:IsDs K π n H vs ds):IsDs K π n H (v::vs) (d::ds)
end
structure Ext (π:Nat->Addr)(n:Nat)(H:Hp)(π':Nat->Addr)(n':Nat)(H':Hp):Prop where
 le:n<=n'
 pi:∀ a,a<n->π' a=π a
 tup:∀ p vs,H p=some (.tup vs)->H' p=some (.tup vs)
 frz:∀ p o u,H p=some (.frz o u)->H' p=some (.frz o u)
section
variable {K:PySem.W.Frag}{π π' π2:Nat->Addr}{n n' n2:Nat}{H H' H2:Hp}
theorem Ext.refl:Ext π n H π n H:=⟨Nat.le_refl _,fun _ _=>rfl,fun _ _ h=>h,fun _ _ _ h=>h⟩
theorem Ext.trans (a:Ext π n H π' n' H')(b:Ext π' n' H' π2 n2 H2):Ext π n H π2 n2 H2:=
 ⟨Nat.le_trans a.le b.le,fun i h=>(b.pi i (Nat.lt_of_lt_of_le h a.le)).trans (a.pi i h),fun p vs h=>b.tup p vs (a.tup p vs h),fun p o u h=>b.frz p o u (a.frz p o u h)⟩
theorem Ext.sqT (e:Ext π n H π' n' H'){p:Addr}{vs:List V}(h:SqT K H p vs):SqT K H' p vs:=by
 rcases h with h|h
 ·rcases h with h|⟨o,h⟩
  ·exact .inl (.inl (e.tup _ _ h))
  ·exact .inl (.inr ⟨o,e.frz _ _ _ h⟩)
 ·exact .inr h
theorem Ext.roL (e:Ext π n H π' n' H'){p:Addr}{vs:List V}(h:RoL K H p vs):RoL K H' p vs:=by
 rcases h with ⟨o,h⟩|h
 ·exact .inl ⟨o,e.frz _ _ _ h⟩
 ·exact .inr h
mutual
theorem IsD.mono {v:V}{d:D}(e:Ext π n H π' n' H'):IsD K π n H v d->IsD K π' n' H' v d
 | .non=>.non
 | .bl b=>.bl b
 | .int i=>.int i
 | .str x=>.str x
 | .ty x=>.ty x
 | .tup h t=>.tup (e.sqT h) (IsDs.mono e t)
 | .rol h t=>.rol (e.roL h) (IsDs.mono e t)
 | .loc h=>by
  rw [<- e.pi _ h]
  exact .loc (Nat.lt_of_lt_of_le h e.le)
theorem IsDs.mono {vs:List V}{ds:List D}(e:Ext π n H π' n' H'):IsDs K π n H vs ds->IsDs K π' n' H' vs ds
 | .nil=>.nil
 | .cons h t=>.cons (IsD.mono e h) (IsDs.mono e t)
end
theorem IsDs.length {vs:List V}{ds:List D}(h:IsDs K π n H vs ds):vs.length=ds.length:=by
 induction ds generalizing vs with
 | nil=>cases h;rfl
 | cons d ds ih=>
  cases h with
  | cons h t=>rw [List.length_cons,List.length_cons,ih t]
theorem IsDs.get {vs:List V}{ds:List D}(h:IsDs K π n H vs ds){i:Nat}{d:D}(e:ds[i]? = some d):∃ v,vs[i]? = some v/\IsD K π n H v d:=by
 induction ds generalizing vs i with
 | nil=>simp at e
 | cons d' ds ih=>
  cases h with
  | cons h t=>
   cases i with
   | zero=>
    simp at e
    subst e
    exact ⟨_,rfl,h⟩
   | succ i=>
    obtain ⟨v,h1,h2⟩:=ih t (by simpa using e)
    exact ⟨v,by simpa using h1,h2⟩
theorem IsDs.append {vs ws:List V}{ds es:List D}(h:IsDs K π n H vs ds)(h2:IsDs K π n H ws es):IsDs K π n H (vs++ws) (ds++es):=by
 induction ds generalizing vs with
 | nil=>cases h;exact h2
 | cons d ds ih=>
  cases h with
  | cons h t=>exact .cons h (ih t)
theorem IsDs.drop {vs:List V}{ds:List D}(h:IsDs K π n H vs ds)(k:Nat):IsDs K π n H (vs.drop k) (ds.drop k):=by
 induction ds generalizing vs k with
 | nil=>cases h;simpa using IsDs.nil
 | cons d ds ih=>
  cases h with
  | cons h t=>
   cases k with
   | zero=>exact .cons h t
   | succ k=>exact ih t k
theorem IsDs.take {vs:List V}{ds:List D}(h:IsDs K π n H vs ds)(k:Nat):IsDs K π n H (vs.take k) (ds.take k):=by
 induction ds generalizing vs k with
 | nil=>cases h;simpa using IsDs.nil
 | cons d ds ih=>
  cases h with
  | cons h t=>
   cases k with
   | zero=>exact .nil
   | succ k=>exact .cons h (ih t k)
theorem IsDs.atI {vs:List V}{ds:List D}(h:IsDs K π n H vs ds){i:Int}{d:D}(e:L2.atI ds i=some d):∃ v,L2.atI vs i=some v/\IsD K π n H v d:=by
 unfold L2.atI at e ⊢
 rw [h.length]
 cases q:ixN ds.length i with
 | none=>rw [q] at e;cases e
 | some j=>
  rw [q] at e
  exact h.get e
end
noncomputable def SetT (p:Addr)(L:List Tb.El):HO:=.ext fun h=>∃ o,h.get? p=some o/\Tb.SObj L o
noncomputable def entT (p:List Int×Addr×V)(w:Value):DictEntry:=⟨Tb.hashT p.1,.ref p.2.1,w⟩
noncomputable def DicT (a:Addr)(ps:List (List Int×Addr×V)):HO:=.ext fun h=>∃ ws:List Value,Vals (ps.map (·.2.2)) ws/\(a == sysModules)=false/\ps.length<=sizeLine /\
 ∃ o es ep,h.get? a=some o/\o.ExactDict/\o.data=.dict es ep/\es.toList=List.zipWith entT ps ws/\(ps.map (·.1)).Nodup
structure Rp (K:PySem.W.Frag)(π:Nat->Addr)(H:Hp)(μ:Hm):Prop where
 inj:∀ a b,a<μ.length->b<μ.length->π a=π b->a=b
 has:∀ a,a<μ.length->(H (π a)).isSome=true
 lst:∀ a xs,μ[a]? = some (.lst xs)->∃ vs,H (π a)=some (.lst vs)/\IsDs K π μ.length H vs xs
 dK:∀ a kvs,μ[a]? = some (.dK kvs)->∃ vs,H (π a)=some (.dK vs)/\vs.map (·.1)=kvs.map (·.1)/\IsDs K π μ.length H (vs.map (·.2)) (kvs.map (·.2))
 st:∀ a ks,μ[a]? = some (.st ks)->∃ L:List Tb.El,H (π a)=some (SetT (π a) L)/\L.map (·.1)=ks/\IsDs K π μ.length H (L.map fun p=>V.ref p.2) (ks.map fun k=>D.tup (k.map D.int))
 dT:∀ a kvs,μ[a]? = some (.dT kvs)->∃ ps:List (List Int×Addr×V),H (π a)=some (DicT (π a) ps)/\ps.map (·.1)=kvs.map (·.1)/\IsDs K π μ.length H (ps.map fun p=>V.ref p.2.1) (kvs.map fun k=>D.tup (k.1.map D.int))/\IsDs K π μ.length H (ps.map (·.2.2)) (kvs.map (·.2))
structure En (K:PySem.W.Frag)(π:Nat->Addr)(n:Nat)(H:Hp)(σ:St)(ρ:Rho):Prop where
 len:σ.length=ρ.length
 get:∀ (i:Nat)(d:D),ρ[i]? = some (some d)->∃ v,σ[i]? = some (some v)/\IsD K π n H v d
section
variable {K:PySem.W.Frag}{π π' π2:Nat->Addr}{n n' n2:Nat}{H H' H2:Hp}{μ μ':Hm}{σ:St}{ρ:Rho}
theorem En.mono (E:En K π n H σ ρ)(e:Ext π n H π' n' H'):En K π' n' H' σ ρ:=
 ⟨E.len,fun i d h=>let ⟨v,h1,h2⟩:=E.get i d h;⟨v,h1,h2.mono e⟩⟩
theorem En.set (E:En K π n H σ ρ){v:V}{d:D}(h:IsD K π n H v d)(i:Nat):En K π n H (σ.set i (some v)) (ρ.set i (some d)):=by
 refine ⟨by rw [List.length_set,List.length_set];exact E.len,fun j d' e=>?_⟩
 rw [List.getElem?_set] at e ⊢
 by_cases hij:i=j
 ·subst hij
  rw [if_pos rfl] at e ⊢
  rw [E.len]
  by_cases hl:i<ρ.length
  ·rw [if_pos hl] at e ⊢
   cases e
   exact ⟨v,rfl,h⟩
  ·rw [if_neg hl] at e
   cases e
 ·rw [if_neg hij] at e ⊢
  exact E.get j d' e
theorem Rp.ne {p:Addr}(R:Rp K π H μ)(h:H p=none){a:Nat}(ha:a<μ.length):π a≠p:=fun e=>by
 have:=R.has a ha
 rw [e,h] at this
 cases this
theorem Rp.fresh {p:Addr}{o:HO}(R:Rp K π H μ)(h:H p=none):Ext π μ.length H π μ.length (upd H p o)/\Rp K π (upd H p o) μ:=by
 have keep:∀ b u,H b=some u->upd H p o b=some u:=fun b u e=>by
  rw [upd_ne (ne_of_none e h)]
  exact e
 have e:Ext π μ.length H π μ.length (upd H p o):=⟨Nat.le_refl _,fun _ _=>rfl,fun q vs e=>keep q _ e,fun q o u e=>keep q _ e⟩
 refine ⟨e,R.inj,fun a ha=>?_,fun a xs ha=>?_,fun a kvs ha=>?_,fun a ks ha=>?_
  ,fun a kvs ha=>?_
  ⟩
 ·rw [upd_ne (R.ne h ha)]
  exact R.has a ha
 ·obtain ⟨vs,h1,h2⟩:=R.lst a xs ha
  exact ⟨vs,keep _ _ h1,h2.mono e⟩
 ·obtain ⟨vs,h1,h2,h3⟩:=R.dK a kvs ha
  exact ⟨vs,keep _ _ h1,h2,h3.mono e⟩
 ·obtain ⟨vs,h1,h2,h3⟩:=R.st a ks ha
  exact ⟨vs,keep _ _ h1,h2,h3.mono e⟩
 ·obtain ⟨vs,h1,h2,h3,h4⟩:=R.dT a kvs ha
  exact ⟨vs,keep _ _ h1,h2,h3.mono e,h4.mono e⟩
noncomputable def CellIs (K:PySem.W.Frag)(π:Nat->Addr)(n:Nat)(H:Hp)(p:Addr):C->HO->Prop
 | .lst xs,.lst vs=>IsDs K π n H vs xs
 | .dK kvs,.dK vs=>vs.map (·.1)=kvs.map (·.1)/\IsDs K π n H (vs.map (·.2)) (kvs.map (·.2))
 | .st ks,o=>∃ L:List Tb.El,o=SetT p L/\L.map (·.1)=ks/\IsDs K π n H (L.map fun p=>V.ref p.2) (ks.map fun k=>D.tup (k.map D.int))
 | .dT kvs,o=>∃ ps:List (List Int×Addr×V),o=DicT p ps/\ps.map (·.1)=kvs.map (·.1)/\IsDs K π n H (ps.map fun p=>V.ref p.2.1) (kvs.map fun k=>D.tup (k.1.map D.int))/\IsDs K π n H (ps.map (·.2.2)) (kvs.map (·.2))
 | _,_=>False
noncomputable def ext1 (π:Nat->Addr)(n:Nat)(p:Addr):Nat->Addr:=fun a=>if a=n then p else π a
theorem Rp.alloc {p:Addr}{c:C}{o:HO}(R:Rp K π H μ)(h:H p=none)(hc:CellIs K π μ.length H p c o) :
  Ext π μ.length H (ext1 π μ.length p) (μ++[c]).length (upd H p o)/\Rp K (ext1 π μ.length p) (upd H p o) (μ++[c])/\ext1 π μ.length p μ.length=p:=by
 have hl:(μ++[c]).length=μ.length+1:=by simp
 have keep:∀ b u,H b=some u->upd H p o b=some u:=fun b u e=>by
  rw [upd_ne (ne_of_none e h)]
  exact e
 have pn:ext1 π μ.length p μ.length=p:=if_pos rfl
 have po:∀ a,a<μ.length->ext1 π μ.length p a=π a:=fun a ha=>if_neg (Nat.ne_of_lt ha)
 have e:Ext π μ.length H (ext1 π μ.length p) (μ++[c]).length (upd H p o):=⟨by rw [hl];exact Nat.le_succ _,po,fun q vs e=>keep q _ e,fun q o u e=>keep q _ e⟩
 have split:∀ a,a<(μ++[c]).length->a<μ.length\/a=μ.length:=fun a ha=>by rw [hl] at ha;omega
 have get:∀ a,a<μ.length->(μ++[c])[a]? = μ[a]?:=fun a ha=>List.getElem?_append_left ha
 have getn:(μ++[c])[μ.length]? = some c:=by simp
 refine ⟨e,⟨fun a b ha hb q=>?_,fun a ha=>?_,fun a xs ha=>?_,fun a kvs ha=>?_,fun a ks ha=>?_
  ,fun a kvs ha=>?_
  ⟩,pn⟩
 ·rcases split a ha with ha|rfl<;>rcases split b hb with hb|rfl
  ·rw [po a ha,po b hb] at q
   exact R.inj a b ha hb q
  ·rw [po a ha,pn] at q
   exact absurd q (R.ne h ha)
  ·rw [pn,po b hb] at q
   exact absurd q.symm (R.ne h hb)
  ·rfl
 ·rcases split a ha with ha|rfl
  ·rw [po a ha,upd_ne (R.ne h ha)]
   exact R.has a ha
  ·rw [pn,upd_same]
   rfl
 ·have hlt:a<(μ++[c]).length:=(Zg.mp ha).1
  rcases split a hlt with h1|rfl
  ·rw [get a h1] at ha
   obtain ⟨vs,h2,h3⟩:=R.lst a xs ha
   rw [po a h1]
   exact ⟨vs,keep _ _ h2,h3.mono e⟩
  ·rw [getn] at ha
   cases ha
   cases o with
   | lst vs=>
    rw [pn]
    exact ⟨vs,upd_same,IsDs.mono e hc⟩
   | _=>exact False.elim hc
 ·have hlt:a<(μ++[c]).length:=(Zg.mp ha).1
  rcases split a hlt with h1|rfl
  ·rw [get a h1] at ha
   obtain ⟨vs,h2,h3,h4⟩:=R.dK a kvs ha
   rw [po a h1]
   exact ⟨vs,keep _ _ h2,h3,h4.mono e⟩
  ·rw [getn] at ha
   cases ha
   cases o with
   | dK vs=>
    rw [pn]
    exact ⟨vs,upd_same,hc.1,IsDs.mono e hc.2⟩
   | _=>exact False.elim hc
 ·have hlt:a<(μ++[c]).length:=(Zg.mp ha).1
  rcases split a hlt with h1|rfl
  ·rw [get a h1] at ha
   obtain ⟨vs,h2,h3,h4⟩:=R.st a ks ha
   rw [po a h1]
   exact ⟨vs,keep _ _ h2,h3,h4.mono e⟩
  ·rw [getn] at ha
   cases ha
   obtain ⟨L,rfl,h3,h4⟩:=hc
   rw [pn]
   exact ⟨L,upd_same,h3,h4.mono e⟩
 ·have hlt:a<(μ++[c]).length:=(Zg.mp ha).1
  rcases split a hlt with h1|rfl
  ·rw [get a h1] at ha
   obtain ⟨vs,h2,h3,h4,h5⟩:=R.dT a kvs ha
   rw [po a h1]
   exact ⟨vs,keep _ _ h2,h3,h4.mono e,h5.mono e⟩
  ·rw [getn] at ha
   cases ha
   obtain ⟨L,rfl,h3,h4,h5⟩:=hc
   rw [pn]
   exact ⟨L,upd_same,h3,h4.mono e,h5.mono e⟩
theorem Rp.put {a:Nat}{c:C}{o u:HO}(R:Rp K π H μ)(ha:a<μ.length)(ho:H (π a)=some u)(hu:(∃ vs,u=.lst vs)\/(∃ vs,u=.dK vs)\/∃ φ,u=.ext φ)(hc:CellIs K π μ.length H (π a) c o) :
  Ext π μ.length H π (μ.set a c).length (upd H (π a) o)/\Rp K π (upd H (π a) o) (μ.set a c):=by
 have hl:(μ.set a c).length=μ.length:=List.length_set ..
 have e:Ext π μ.length H π (μ.set a c).length (upd H (π a) o):=by
  refine ⟨Nat.le_of_eq hl.symm,fun _ _=>rfl,fun q vs z=>?_,fun q o' u' z=>?_⟩
  ·rw [upd_ne]
   ·exact z
   ·intro e
    subst e
    rw [ho] at z
    rcases hu with ⟨w,rfl⟩|⟨w,rfl⟩|⟨w,rfl⟩<;>cases z
  ·rw [upd_ne]
   ·exact z
   ·intro e
    subst e
    rw [ho] at z
    rcases hu with ⟨w,rfl⟩|⟨w,rfl⟩|⟨w,rfl⟩<;>cases z
 have other:∀ b,b<μ.length->b≠a->upd H (π a) o (π b)=H (π b):=fun b hb hne=>upd_ne fun q=>hne (R.inj b a hb ha q)
 refine ⟨e,⟨fun b b' hb hb'=>R.inj b b' (hl ▸ hb) (hl ▸ hb'),fun b hb=>?_,fun b xs hb=>?_,fun b kvs hb=>?_,fun b ks hb=>?_
  ,fun b kvs hb=>?_
  ⟩⟩
 ·by_cases h:b=a
  ·subst h
   rw [upd_same]
   rfl
  ·rw [other b (hl ▸ hb) h]
   exact R.has b (hl ▸ hb)
 ·have hlt:b<μ.length:=hl ▸ (Zg.mp hb).1
  by_cases h:b=a
  ·subst h
   rw [List.getElem?_set_self hlt] at hb
   cases hb
   cases o with
   | lst vs=>exact ⟨vs,upd_same,IsDs.mono e hc⟩
   | _=>exact False.elim hc
  ·rw [List.getElem?_set_ne (Ne.symm h)] at hb
   obtain ⟨vs,h2,h3⟩:=R.lst b xs hb
   exact ⟨vs,by rw [other b hlt h];exact h2,h3.mono e⟩
 ·have hlt:b<μ.length:=hl ▸ (Zg.mp hb).1
  by_cases h:b=a
  ·subst h
   rw [List.getElem?_set_self hlt] at hb
   cases hb
   cases o with
   | dK vs=>exact ⟨vs,upd_same,hc.1,IsDs.mono e hc.2⟩
   | _=>exact False.elim hc
  ·rw [List.getElem?_set_ne (Ne.symm h)] at hb
   obtain ⟨vs,h2,h3,h4⟩:=R.dK b kvs hb
   exact ⟨vs,by rw [other b hlt h];exact h2,h3,h4.mono e⟩
 ·have hlt:b<μ.length:=hl ▸ (Zg.mp hb).1
  by_cases h:b=a
  ·subst h
   rw [List.getElem?_set_self hlt] at hb
   cases hb
   obtain ⟨L,rfl,h3,h4⟩:=hc
   exact ⟨L,upd_same,h3,h4.mono e⟩
  ·rw [List.getElem?_set_ne (Ne.symm h)] at hb
   obtain ⟨vs,h2,h3,h4⟩:=R.st b ks hb
   exact ⟨vs,by rw [other b hlt h];exact h2,h3,h4.mono e⟩
 ·have hlt:b<μ.length:=hl ▸ (Zg.mp hb).1
  by_cases h:b=a
  ·subst h
   rw [List.getElem?_set_self hlt] at hb
   cases hb
   obtain ⟨L,rfl,h3,h4,h5⟩:=hc
   exact ⟨L,upd_same,h3,h4.mono e,h5.mono e⟩
  ·rw [List.getElem?_set_ne (Ne.symm h)] at hb
   obtain ⟨vs,h2,h3,h4,h5⟩:=R.dT b kvs hb
   exact ⟨vs,by rw [other b hlt h];exact h2,h3,h4.mono e,h5.mono e⟩
end
noncomputable def KC (K:PySem.W.Frag)(Q:VK)(π:Nat->Addr)(n:Nat)(H:Hp)(d:D)(μ':Hm):Prop:=
 ∀ π' v H',Ext π n H π' μ'.length H'->Rp K π' H' μ'->IsD K π' μ'.length H' v d->Q v H'
theorem KC.after {K:PySem.W.Frag}{Q:VK}{π π1:Nat->Addr}{n n1:Nat}{H H1:Hp}{d:D}{μ':Hm}(k:KC K Q π n H d μ')(e:Ext π n H π1 n1 H1):KC K Q π1 n1 H1 d μ':=
 fun π' v H' e' R i=>k π' v H' (e.trans e') R i
noncomputable def tM (K:PySem.W.Frag)(m:ME):TE:=fun σ H Q=>∃ π ρ μ d μ',Rp K π H μ/\En K π μ.length H σ ρ/\m ρ μ=some (d,μ')/\KC K Q π μ.length H d μ'
noncomputable def tMT (K:PySem.W.Frag)(m:MT):TT:=fun σ H Q=>∃ π ρ μ b μ',Rp K π H μ/\En K π μ.length H σ ρ/\m ρ μ=some (b,μ')/\∀ π' H',Ext π μ.length H π' μ'.length H'->Rp K π' H' μ'->Q b H'
noncomputable def tMA (K:PySem.W.Frag)(m:MA):TA:=fun σ H Q=>∃ π ρ μ ds μ',Rp K π H μ/\En K π μ.length H σ ρ/\m ρ μ=some (ds,μ')/\∀ π' vs H',Ext π μ.length H π' μ'.length H'->Rp K π' H' μ'->IsDs K π' μ'.length H' vs ds->Q vs H'
noncomputable def FlOk (K:PySem.W.Frag)(E:Ends)(π:Nat->Addr)(n:Nat)(H:Hp)(fl:Fl)(ρ':Rho)(μ':Hm):Prop:=
 match fl with
 | .nx=>∀ π' σ' H',Ext π n H π' μ'.length H'->Rp K π' H' μ'->En K π' μ'.length H' σ' ρ'->E.nx σ' H'
 | .bk=>∀ π' σ' H',Ext π n H π' μ'.length H'->Rp K π' H' μ'->En K π' μ'.length H' σ' ρ'->E.bk σ' H'
 | .ct=>∀ π' σ' H',Ext π n H π' μ'.length H'->Rp K π' H' μ'->En K π' μ'.length H' σ' ρ'->E.ct σ' H'
 | .rt d=>KC K E.rt π n H d μ'
noncomputable def tMS (K:PySem.W.Frag)(m:MS):TS:=fun E σ H=>∃ π ρ μ fl ρ' μ',Rp K π H μ/\En K π μ.length H σ ρ/\m ρ μ=some (fl,ρ',μ')/\FlOk K E π μ.length H fl ρ' μ'
noncomputable def spM (K:PySem.W.Frag)(k:Nat)(f:MF):Sp:=fun vs H Q _=>vs.length=k/\∃ π ds μ d μ',Rp K π H μ/\IsDs K π μ.length H vs ds/\f ds μ=some (d,μ')/\KC K Q π μ.length H d μ'
section
variable {X:Cx}{e a b c:Expr}{t:TE}{m ma mb mc:ME}{pos:Pos}
theorem pm_weak (h:PE X e t)(hw:∀ σ H Q,tM X.K m σ H Q->t σ H Q):PE X e (tM X.K m):=fun pins s σ H Q I q=>h pins s σ H Q I (hw σ H Q q)
theorem pmt_weak {t:TT}{m:MT}(h:PT X e t)(hw:∀ σ H Q,tMT X.K m σ H Q->t σ H Q):PT X e (tMT X.K m):=fun pins s σ H Q I q=>h pins s σ H Q I (hw σ H Q q)
theorem pmw_weak {t:TT}{m:MT}(h:PW X e t)(hw:∀ σ H Q,tMT X.K m σ H Q->t σ H Q):PW X e (tMT X.K m):=fun wh pins s σ H Q I q=>h wh pins s σ H Q I (hw σ H Q q)
theorem pma_weak {es:List Expr}{t:TA}{m:MA}(h:PA X es t)(hw:∀ σ H Q,tMA X.K m σ H Q->t σ H Q):PA X es (tMA X.K m):=fun p pins s σ H Q I q=>h p pins s σ H Q I (hw σ H Q q)
theorem pms_weak {st:Stmt}{t:TS}{m:MS}(h:PS X st t)(hw:∀ E σ H,tMS X.K m E σ H->t E σ H):PS X st (tMS X.K m):=fun pins s σ H E I q=>h pins s σ H E I (hw E σ H q)
theorem pmss_weak {st:List Stmt}{t:TS}{m:MS}(h:PSs X st t)(hw:∀ E σ H,tMS X.K m E σ H->t E σ H):PSs X st (tMS X.K m):=fun pins s σ H E I q=>h pins s σ H E I (hw E σ H q)
noncomputable def mVar (i:Nat):ME:=fun ρ μ=>match ρ[i]? with|some (some d)=>some (d,μ)|_=>none
noncomputable def mC (d:D):ME:=fun _ μ=>some (d,μ)
theorem mVar_some {i:Nat}{ρ:Rho}{μ μ':Hm}{d:D}(h:mVar i ρ μ=some (d,μ')):ρ[i]? = some (some d)/\μ'=μ:=by
 unfold mVar at h
 split at h
 ·rename_i d' e
  cases h
  exact ⟨e,rfl⟩
 ·cases h
theorem pm_var {x:Str}(i:Nat)(h:PE X (.Name x pos) (tVar i)):PE X (.Name x pos) (tM X.K (mVar i)):=pm_weak h (by
 rintro σ H Q ⟨π,ρ,μ,d,μ',R,E,hm,k⟩
 obtain ⟨h1,rfl⟩:=mVar_some hm
 obtain ⟨v,h2,h3⟩:=E.get i d h1
 exact ⟨v,h2,k π v H .refl R h3⟩)
theorem pm_const {v:V}{d:D}(h:PE X e (tC v))(hd:∀ π n H,IsD X.K π n H v d):PE X e (tM X.K (mC d)):=pm_weak h (by
 rintro σ H Q ⟨π,ρ,μ,d',μ',R,E,hm,k⟩
 cases hm
 exact k π v H .refl R (hd _ _ _))
theorem pm_int {i:Int}{j:Nat}:PE X (.Constant (.int i) j pos) (tM X.K (mC (.int i))):=pm_const pe_int fun _ _ _=>.int i
theorem pm_bl {i:Bool}{j:Nat}:PE X (.Constant (.bool i) j pos) (tM X.K (mC (.bl i))):=pm_const pe_bl fun _ _ _=>.bl i
theorem pm_str {i:Str}{j:Nat}:PE X (.Constant (.str i) j pos) (tM X.K (mC (.str i))):=pm_const pe_str fun _ _ _=>.str i
theorem pm_non {j:Nat}:PE X (.Constant .none j pos) (tM X.K (mC .non)):=pm_const pe_non fun _ _ _=>.non
noncomputable def mOp (f:D->D->Hm->Option (D×Hm))(a b:ME):ME:=fun ρ μ=>(a ρ μ).bind fun p=>(b ρ p.2).bind fun q=>f p.1 q.1 q.2
noncomputable def OpD (K:PySem.W.Frag)(f:D->D->Hm->Option (D×Hm))(r:R2):Prop:=
 ∀ π H μ x y d μ' vx vy Q,Rp K π H μ->IsD K π μ.length H vx x->IsD K π μ.length H vy y->f x y μ=some (d,μ')->KC K Q π μ.length H d μ'->r vx vy H Q
theorem mOp_read {f:D->D->Hm->Option (D×Hm)}{r:R2}{K:PySem.W.Frag}(hf:OpD K f r):∀ σ H Q,tM K (mOp f ma mb) σ H Q->tOp r (tM K ma) (tM K mb) σ H Q:=by
 rintro σ H Q ⟨π,ρ,μ,d,μ',R,E,hm,k⟩
 obtain ⟨⟨x,μ1⟩,h1,hm⟩:=Zb.mp hm
 obtain ⟨⟨y,μ2⟩,h2,hm⟩:=Zb.mp hm
 exact ⟨π,ρ,μ,x,μ1,R,E,h1,fun π1 v1 H1 e1 R1 i1=>⟨π1,ρ,μ1,y,μ2,R1,E.mono e1,h2,fun π2 v2 H2 e2 R2 i2=>hf π2 H2 μ2 x y d μ' v1 v2 Q R2 (i1.mono e2) i2 hm (k.after (e1.trans e2))⟩⟩
theorem pm_op {op:Operator}{r:R2}{f:D->D->Hm->Option (D×Hm)}(ho:OpR X (binaryOp op) r)(hf:OpD X.K f r)(ha:PE X a (tM X.K ma))(hb:PE X b (tM X.K mb)):PE X (.BinOp a op b pos) (tM X.K (mOp f ma mb)):=
 pm_weak (pe_op ho ha hb) (mOp_read hf)
theorem pm_cmp {op:CmpOp}{r:R2}{f:D->D->Hm->Option (D×Hm)}(ho:OpR X (compareOp op) r)(hf:OpD X.K f r)(ha:PE X a (tM X.K ma))(hb:PE X b (tM X.K mb))(hm:behindInMarks op b=false):PE X (.Compare a [op] [b] pos) (tM X.K (mOp f ma mb)):=
 pm_weak (pe_cmpR ho ha hb hm) (mOp_read hf)
noncomputable def mTest (m:ME):MT:=fun ρ μ=>(m ρ μ).bind fun p=>match p.1 with|.bl b=>some (b,p.2)|_=>none
theorem mTest_read {K:PySem.W.Frag}:∀ σ H Q,tMT K (mTest m) σ H Q->tM K m σ H fun x H'=>∃ k,x=.bl k/\Q k H':=by
 rintro σ H Q ⟨π,ρ,μ,b,μ',R,E,hm,k⟩
 obtain ⟨⟨x,μ1⟩,h1,hm⟩:=Zb.mp hm
 cases x with
 | bl c=>
  cases hm
  refine ⟨π,ρ,μ,_,_,R,E,h1,fun π' v H' e' R' i'=>?_⟩
  cases i'
  exact ⟨_,rfl,k π' H' e' R'⟩
 | _=>cases hm
theorem pmt_cmp {op:CmpOp}{r:R2}{f:D->D->Hm->Option (D×Hm)}(ho:OpR X (compareOp op) r)(hf:OpD X.K f r)(ha:PE X a (tM X.K ma))(hb:PE X b (tM X.K mb))(hm:behindInMarks op b=false):PT X (.Compare a [op] [b] pos) (tMT X.K (mTest (mOp f ma mb))):=
 pmt_weak (pt_cmpR ho ha hb hm) fun σ H Q h=>mOp_read hf σ H _ (mTest_read σ H Q h)
end
end L3
namespace L3
open PySem L2
section
variable {X:Cx}{e a b c:Expr}{m ma mb mc:ME}{pos:Pos}{mt mu:MT}{rest:List Expr}
noncomputable def mAndT (a b:MT):MT:=fun ρ μ=>(a ρ μ).bind fun p=>match p.1 with|true=>b ρ p.2|false=>some (false,p.2)
noncomputable def mOrT (a b:MT):MT:=fun ρ μ=>(a ρ μ).bind fun p=>match p.1 with|true=>some (true,p.2)|false=>b ρ p.2
noncomputable def mNotT (a:MT):MT:=fun ρ μ=>(a ρ μ).map fun p=>(!p.1,p.2)
theorem pmw_and1 (ha:PT X a (tMT X.K mt)):PW X (.BoolOp .And [a] pos) (tMT X.K mt):=pw_and1 ha
theorem pmw_or1 (ha:PT X a (tMT X.K mt)):PW X (.BoolOp .Or [a] pos) (tMT X.K mt):=pw_or1 ha
theorem pmw_and (ha:PT X a (tMT X.K mt))(hb:PW X (.BoolOp .And (b::rest) pos) (tMT X.K mu)):PW X (.BoolOp .And (a::b::rest) pos) (tMT X.K (mAndT mt mu)):=pmw_weak (pw_and ha hb) (by
 rintro σ H Q ⟨π,ρ,μ,d,μ',R,E,hm,k⟩
 obtain ⟨⟨x,μ1⟩,h1,hm⟩:=Zb.mp hm
 refine ⟨π,ρ,μ,x,μ1,R,E,h1,fun π1 H1 e1 R1=>?_⟩
 cases x with
 | true=>
  refine iteT ?_
  exact ⟨π1,ρ,μ1,d,μ',R1,E.mono e1,hm,fun π2 H2 e2 R2=>k π2 H2 (e1.trans e2) R2⟩
 | false=>
  refine iteF ?_
  cases hm
  exact k π1 H1 e1 R1)
theorem pmw_or (ha:PT X a (tMT X.K mt))(hb:PW X (.BoolOp .Or (b::rest) pos) (tMT X.K mu)):PW X (.BoolOp .Or (a::b::rest) pos) (tMT X.K (mOrT mt mu)):=pmw_weak (pw_or ha hb) (by
 rintro σ H Q ⟨π,ρ,μ,d,μ',R,E,hm,k⟩
 obtain ⟨⟨x,μ1⟩,h1,hm⟩:=Zb.mp hm
 refine ⟨π,ρ,μ,x,μ1,R,E,h1,fun π1 H1 e1 R1=>?_⟩
 cases x with
 | true=>
  refine iteT ?_
  cases hm
  exact k π1 H1 e1 R1
 | false=>
  refine iteF ?_
  exact ⟨π1,ρ,μ1,d,μ',R1,E.mono e1,hm,fun π2 H2 e2 R2=>k π2 H2 (e1.trans e2) R2⟩)
theorem pmt_not (ha:PT X a (tMT X.K mt)):PT X (.UnaryOp .Not a pos) (tMT X.K (mNotT mt)):=pmt_weak (pt_not ha) (by
 rintro σ H Q ⟨π,ρ,μ,d,μ',R,E,hm,k⟩
 obtain ⟨⟨x,μ1⟩,h1,hm⟩:=Zm.mp hm
 cases hm
 exact ⟨π,ρ,μ,x,μ1,R,E,h1,fun π1 H1 e1 R1=>k π1 H1 e1 R1⟩)
noncomputable def mAndV (a b:ME):ME:=fun ρ μ=>(a ρ μ).bind fun p=>match p.1 with|.bl true=>b ρ p.2|.bl false=>some (.bl false,p.2)|_=>none
noncomputable def mOrV (a b:ME):ME:=fun ρ μ=>(a ρ μ).bind fun p=>match p.1 with|.bl true=>some (.bl true,p.2)|.bl false=>b ρ p.2|_=>none
noncomputable def mNotV (a:ME):ME:=fun ρ μ=>(a ρ μ).bind fun p=>match p.1 with|.bl b=>some (.bl (!b),p.2)|_=>none
theorem pm_one {op:BoolOp}(h:PE X a (tM X.K m)):PE X (.BoolOp op [a] pos) (tM X.K m):=pe_one h
theorem pm_and (ha:PE X a (tM X.K ma))(hb:PE X (.BoolOp .And (b::rest) pos) (tM X.K mb)):PE X (.BoolOp .And (a::b::rest) pos) (tM X.K (mAndV ma mb)):=pm_weak (pe_and ha hb) (by
 rintro σ H Q ⟨π,ρ,μ,d,μ',R,E,hm,k⟩
 obtain ⟨⟨x,μ1⟩,h1,hm⟩:=Zb.mp hm
 cases x with
 | bl c=>
  refine ⟨π,ρ,μ,.bl c,μ1,R,E,h1,fun π1 v1 H1 e1 R1 i1=>?_⟩
  cases i1
  refine ⟨c,rfl,?_⟩
  cases c with
  | true=>
   refine iteT ?_
   exact ⟨π1,ρ,μ1,d,μ',R1,E.mono e1,hm,k.after e1⟩
  | false=>
   refine iteF ?_
   cases hm
   exact k π1 _ H1 e1 R1 (.bl false)
 | _=>cases hm)
theorem pm_or (ha:PE X a (tM X.K ma))(hb:PE X (.BoolOp .Or (b::rest) pos) (tM X.K mb)):PE X (.BoolOp .Or (a::b::rest) pos) (tM X.K (mOrV ma mb)):=pm_weak (pe_or ha hb) (by
 rintro σ H Q ⟨π,ρ,μ,d,μ',R,E,hm,k⟩
 obtain ⟨⟨x,μ1⟩,h1,hm⟩:=Zb.mp hm
 cases x with
 | bl c=>
  refine ⟨π,ρ,μ,.bl c,μ1,R,E,h1,fun π1 v1 H1 e1 R1 i1=>?_⟩
  cases i1
  refine ⟨c,rfl,?_⟩
  cases c with
  | true=>
   refine iteT ?_
   cases hm
   exact k π1 _ H1 e1 R1 (.bl true)
  | false=>
   refine iteF ?_
   exact ⟨π1,ρ,μ1,d,μ',R1,E.mono e1,hm,k.after e1⟩
 | _=>cases hm)
theorem pm_not (ha:PE X a (tM X.K ma)):PE X (.UnaryOp .Not a pos) (tM X.K (mNotV ma)):=pm_weak (pe_not ha) (by
 rintro σ H Q ⟨π,ρ,μ,d,μ',R,E,hm,k⟩
 obtain ⟨⟨x,μ1⟩,h1,hm⟩:=Zb.mp hm
 cases x with
 | bl c=>
  cases hm
  refine ⟨π,ρ,μ,_,_,R,E,h1,fun π1 v1 H1 e1 R1 i1=>?_⟩
  cases i1
  exact ⟨_,rfl,k π1 _ H1 e1 R1 (.bl _)⟩
 | _=>cases hm)
noncomputable def mIfE (t:MT)(a b:ME):ME:=fun ρ μ=>(t ρ μ).bind fun p=>match p.1 with|true=>a ρ p.2|false=>b ρ p.2
theorem pm_ifExp (hc:PT X c (tMT X.K mt))(ha:PE X a (tM X.K ma))(hb:PE X b (tM X.K mb)):PE X (.IfExp c a b pos) (tM X.K (mIfE mt ma mb)):=pm_weak (pe_ifExp hc ha hb) (by
 rintro σ H Q ⟨π,ρ,μ,d,μ',R,E,hm,k⟩
 obtain ⟨⟨x,μ1⟩,h1,hm⟩:=Zb.mp hm
 refine ⟨π,ρ,μ,x,μ1,R,E,h1,fun π1 H1 e1 R1=>?_⟩
 cases x with
 | true=>
  refine iteT ?_
  exact ⟨π1,ρ,μ1,d,μ',R1,E.mono e1,hm,k.after e1⟩
 | false=>
  refine iteF ?_
  exact ⟨π1,ρ,μ1,d,μ',R1,E.mono e1,hm,k.after e1⟩)
noncomputable def mNil:MA:=fun _ μ=>some ([],μ)
noncomputable def mCons (a:ME)(r:MA):MA:=fun ρ μ=>(a ρ μ).bind fun p=>(r ρ p.2).bind fun q=>some (p.1::q.1,q.2)
variable {es:List Expr}{ms:MA}
theorem pma_nil:PA X [] (tMA X.K mNil):=pma_weak pa_nil (by
 rintro σ H Q ⟨π,ρ,μ,d,μ',R,E,hm,k⟩
 cases hm
 exact k π [] H .refl R .nil)
theorem pma_cons (ha:PE X e (tM X.K m))(hr:PA X es (tMA X.K ms))(hs:starEach (e::es) X.env=(false,eval e X.env)::starEach es X.env:=by rfl):PA X (e::es) (tMA X.K (mCons m ms)):=pma_weak (pa_cons ha hr hs) (by
 rintro σ H Q ⟨π,ρ,μ,d,μ',R,E,hm,k⟩
 obtain ⟨⟨x,μ1⟩,h1,hm⟩:=Zb.mp hm
 obtain ⟨⟨xs,μ2⟩,h2,hm⟩:=Zb.mp hm
 cases hm
 exact ⟨π,ρ,μ,x,μ1,R,E,h1,fun π1 v1 H1 e1 R1 i1=>⟨π1,ρ,μ1,xs,μ2,R1,E.mono e1,h2,fun π2 vs H2 e2 R2 i2=>k π2 _ H2 (e1.trans e2) R2 (.cons (i1.mono e2) i2)⟩⟩)
noncomputable def mTup (ms:MA):ME:=fun ρ μ=>(ms ρ μ).bind fun p=>if p.1.length<=sizeLine then some (.tup p.1,p.2) else none
noncomputable def mLst (ms:MA):ME:=fun ρ μ=>(ms ρ μ).bind fun p=>if p.1.length<=sizeLine then some (.loc p.2.length,p.2++[.lst p.1]) else none
theorem pm_tup {x1:Nat}(h:PA X es (tMA X.K ms)):PE X (.Tuple es x1 pos) (tM X.K (mTup ms)):=pm_weak (pe_tup h) (by
 rintro σ H Q ⟨π,ρ,μ,d,μ',R,E,hm,k⟩
 obtain ⟨⟨xs,μ1⟩,h1,hm⟩:=Zb.mp hm
 split at hm
 ·rename_i hl
  cases hm
  refine ⟨π,ρ,μ,_,_,R,E,h1,fun π1 vs H1 e1 R1 i1=>⟨by rw [i1.length];exact hl,fun p hp=>?_⟩⟩
  obtain ⟨e2,R2⟩:=R1.fresh (o:=.tup vs) hp
  exact k π1 _ _ (e1.trans e2) R2 (.tup (.of upd_same) (i1.mono e2))
 ·cases hm)
theorem pm_lst (h:PA X es (tMA X.K ms)):PE X (.List es pos) (tM X.K (mLst ms)):=pm_weak (pe_lst h) (by
 rintro σ H Q ⟨π,ρ,μ,d,μ',R,E,hm,k⟩
 obtain ⟨⟨xs,μ1⟩,h1,hm⟩:=Zb.mp hm
 split at hm
 ·rename_i hl
  cases hm
  refine ⟨π,ρ,μ,xs,μ1,R,E,h1,fun π1 vs H1 e1 R1 i1=>⟨by rw [i1.length];exact hl,fun p hp=>?_⟩⟩
  obtain ⟨e2,R2,q⟩:=R1.alloc (c:=.lst xs) (o:=.lst vs) hp i1
  have i2:IsD X.K (ext1 π1 μ1.length p) (μ1++[C.lst xs]).length (upd H1 p (.lst vs)) (.ref p) (.loc μ1.length):=by
   have:=IsD.loc (K:=X.K) (π:=ext1 π1 μ1.length p) (n:=(μ1++[C.lst xs]).length) (H:=upd H1 p (.lst vs)) (a:=μ1.length) (by simp)
   rw [q] at this
   exact this
  exact k _ _ _ (e1.trans e2) R2 i2
 ·cases hm)
noncomputable def mCall (f:MF)(ms:MA):ME:=fun ρ μ=>(ms ρ μ).bind fun p=>f p.1 p.2
theorem mCall_read {K:PySem.W.Frag}{f:MF}{n:Nat}{E:XK}(hn:∀ ρ μ ds μ',ms ρ μ=some (ds,μ')->ds.length=n):∀ σ H Q,tM K (mCall f ms) σ H Q->tCall (spM K n f) [] E (tMA K ms) σ H Q:=by
 rintro σ H Q ⟨π,ρ,μ,d,μ',R,E,hm,k⟩
 obtain ⟨⟨xs,μ1⟩,h1,hm⟩:=Zb.mp hm
 refine ⟨π,ρ,μ,xs,μ1,R,E,h1,fun π1 vs H1 e1 R1 i1=>?_⟩
 show spM K n f (vs++[]) H1 Q _
 rw [List.append_nil]
 exact ⟨by rw [i1.length];exact hn ρ μ xs μ1 h1,π1,xs,μ1,d,μ',R1,i1,hm,k.after e1⟩
theorem len_nil:∀ ρ μ ds μ',mNil ρ μ=some (ds,μ')->ds.length=0:=by
 intro ρ μ ds μ' h
 cases h
 rfl
theorem len_cons {n:Nat}(h:∀ ρ μ ds μ',ms ρ μ=some (ds,μ')->ds.length=n):∀ ρ μ ds μ',mCons m ms ρ μ=some (ds,μ')->ds.length=n+1:=by
 intro ρ μ ds μ' hm
 obtain ⟨⟨x,μ1⟩,h1,hm⟩:=Zb.mp hm
 obtain ⟨⟨xs,μ2⟩,h2,hm⟩:=Zb.mp hm
 cases hm
 rw [List.length_cons,h ρ μ1 xs _ h2]
theorem pm_call {k:Nat}{f:Addr}{fd:FuncData}{ps:List Str}{fm:MF}{x:Str}{p:Pos}{n:Nat}(F:FnOk X.prog X.w X.K X.mg X.base CX0 k f fd ps (spM X.K n fm))(hr:Room k X.A)(hg:Gl X x)(hm:X.mg x=some (.ref f))
  (hk:PySem.W.keepIn X.K (.ref f)=true)(hb:Binds X.K fd ps [])(ha:PA X (e::es) (tMA X.K ms))(hn:∀ ρ μ ds μ',ms ρ μ=some (ds,μ')->ds.length=n)(hdb:(x == ("__debug__":Str))=false:=by decide)
  (he:starEach (e::es) X.env=(false,eval e X.env)::starEach es X.env:=by rfl)(hpl:(backTo pos (starEach es X.env)).any (·.1)=false:=by rfl) :
  PE X (.Call (.Name x p) (e::es) [] pos) (tM X.K (mCall fm ms)):=
 pm_weak (pe_call F hr hg hm hk hb .nil (E:=E0) pass0 ha hdb he hpl) (mCall_read hn)
noncomputable def CallD (K:PySem.W.Frag)(f:MF)(r:List V->Hp->VK->Prop):Prop:=
 ∀ π H μ xs d μ' vs Q,Rp K π H μ->IsDs K π μ.length H vs xs->f xs μ=some (d,μ')->KC K Q π μ.length H d μ'->r vs H Q
theorem mCB_read {K:PySem.W.Frag}{f:MF}{r:List V->Hp->VK->Prop}(hf:CallD K f r):∀ σ H Q,tM K (mCall f ms) σ H Q->tCB r (tMA K ms) σ H Q:=by
 rintro σ H Q ⟨π,ρ,μ,d,μ',R,E,hm,k⟩
 obtain ⟨⟨xs,μ1⟩,h1,hm⟩:=Zb.mp hm
 exact ⟨π,ρ,μ,xs,μ1,R,E,h1,fun π1 vs H1 e1 R1 i1=>hf π1 H1 μ1 xs d μ' vs Q R1 i1 hm (k.after e1)⟩
theorem pm_callB {f:MF}{r:List V->Hp->VK->Prop}{id:String}{x:Str}{p:Pos}(hc:CallR X (.builtin id) r)(hf:CallD X.K f r)(hg:Gl X x)(hm:X.mg x=none)(hv:bootBuiltins x=some (.builtin id))(ha:PA X (e::es) (tMA X.K ms))
  (hn:x ≠ "__name__":=by decide) (hdb:(x == ("__debug__":Str))=false:=by decide)
  (he:starEach (e::es) X.env=(false,eval e X.env)::starEach es X.env:=by rfl)(hpl:(backTo pos (starEach es X.env)).any (·.1)=false:=by rfl):PE X (.Call (.Name x p) (e::es) [] pos) (tM X.K (mCall f ms)):=
 pm_weak (pe_callB hc hg hm hv ha hn hdb he hpl) (mCB_read hf)
theorem pm_callTy {f:MF}{r:List V->Hp->VK->Prop}{T:String}{x:Str}{p:Pos}(hc:CallR X (.type T) r)(hf:CallD X.K f r)(hg:Gl X x)(hm:X.mg x=none)(hv:bootBuiltins x=some (.type T))(ha:PA X (e::es) (tMA X.K ms))
  (hn:x ≠ "__name__":=by decide) (hdb:(x == ("__debug__":Str))=false:=by decide)
  (he:starEach (e::es) X.env=(false,eval e X.env)::starEach es X.env:=by rfl)(hpl:(backTo pos (starEach es X.env)).any (·.1)=false:=by rfl):PE X (.Call (.Name x p) (e::es) [] pos) (tM X.K (mCall f ms)):=
 pm_weak (pe_callTy hc hg hm hv ha hn hdb he hpl) (mCB_read hf)
noncomputable def seqD (μ:Hm):D->Option (List D)
 | .tup xs=>some xs
 | .rol xs=>some xs
 | .loc a=>match μ[a]? with|some (.lst xs)=>some xs|_=>none
 | _=>none
noncomputable def ixD:D->D->Hm->Option (D×Hm)
 | .str z,.int i,μ=>if z.length<=sizeLine then (atI z.cps.toList i).map fun c=>(.str ⟨#[c]⟩,μ) else none
 | x,.int i,μ=>(seqD μ x).bind fun xs=>(atI xs i).map fun d=>(d,μ)
 | _,_,_=>none
theorem ixD_ok {K:PySem.W.Frag}:OpD K ixD (rIx K):=by
 intro π H μ x y d μ' vx vy Q R ix iy hm k
 cases iy with
 | int i=>
  cases ix with
  | str z=>
   simp only [ixD] at hm
   split at hm
   ·rename_i hl
    obtain ⟨c,h1,h2⟩:=Zm.mp hm
    cases h2
    exact .inr (.inr ⟨z,i,c,rfl,rfl,hl,h1,k π _ H .refl R (.str _)⟩)
   ·cases hm
  | tup h t=>
   simp only [ixD,seqD,Option.bind_some] at hm
   obtain ⟨d',h1,h2⟩:=Zm.mp hm
   cases h2
   obtain ⟨v,h3,h4⟩:=t.atI h1
   exact .inr (.inl ⟨_,_,i,v,rfl,rfl,h,h3,k π _ H .refl R h4⟩)
  | rol h t=>
   simp only [ixD,seqD,Option.bind_some] at hm
   obtain ⟨d',h1,h2⟩:=Zm.mp hm
   cases h2
   obtain ⟨v,h3,h4⟩:=t.atI h1
   exact .inl ⟨_,_,i,v,rfl,rfl,h.sq,h3,k π _ H .refl R h4⟩
  | @loc a ha=>
   simp only [ixD,seqD] at hm
   split at hm
   ·rename_i xs hx
    simp only [Option.bind_some] at hm
    obtain ⟨d',h1,h2⟩:=Zm.mp hm
    cases h2
    obtain ⟨vs,h5,h6⟩:=R.lst a xs hx
    obtain ⟨v,h3,h4⟩:=h6.atI h1
    exact .inl ⟨_,_,i,v,rfl,rfl,.of h5,h3,k π _ H .refl R h4⟩
   ·cases hm
  | _=>simp [ixD,seqD] at hm
 | _=>cases ix<;>simp [ixD] at hm
theorem pm_ix (ha:PE X a (tM X.K ma))(hb:PE X b (tM X.K mb))(hs:PlainIx b):PE X (.Subscript a b pos) (tM X.K (mOp ixD ma mb)):=pm_weak (pe_ix ix_seq ha hb hs) (mOp_read ixD_ok)
noncomputable def cutD (xs:List D)(lo hi:Option Int):List D:=(xs.drop (HT.sIx xs.length 0 lo)).take (HT.sIx xs.length xs.length hi - HT.sIx xs.length 0 lo)
noncomputable abbrev MO:=Rho->Hm->Option (Option Int×Hm)
noncomputable def mNoPart:MO:=fun _ μ=>some (none,μ)
noncomputable def mPart (m:ME):MO:=fun ρ μ=>(m ρ μ).bind fun p=>match p.1 with|.int i=>some (some i,p.2)|_=>none
noncomputable def tMO (K:PySem.W.Frag)(m:MO):TO:=fun σ H Q=>∃ π ρ μ o μ',Rp K π H μ/\En K π μ.length H σ ρ/\m ρ μ=some (o,μ')/\∀ π' H',Ext π μ.length H π' μ'.length H'->Rp K π' H' μ'->Q o H'
theorem pmo_none:PO X none (tMO X.K mNoPart):=fun pins s σ H Q I q=>po_none pins s σ H Q I (by
 obtain ⟨π,ρ,μ,o,μ',R,E,hm,k⟩:=q
 cases hm
 exact k π H .refl R)
theorem pmo_some (h:PE X e (tM X.K m)):PO X (some e) (tMO X.K (mPart m)):=fun pins s σ H Q I q=>po_some h pins s σ H Q I (by
 obtain ⟨π,ρ,μ,o,μ',R,E,hm,k⟩:=q
 obtain ⟨⟨x,μ1⟩,h1,hm⟩:=Zb.mp hm
 cases x with
 | int i=>
  cases hm
  refine ⟨π,ρ,μ,_,_,R,E,h1,fun π1 v1 H1 e1 R1 i1=>?_⟩
  cases i1
  exact ⟨_,rfl,k π1 H1 e1 R1⟩
 | _=>cases hm)
noncomputable abbrev rSlA (K:PySem.W.Frag):V->Option Int->Option Int->Hp->VK->Prop:=rSlL K
theorem sl_any {X:Cx}:SlR X (rSlA X.K):=sl_list
theorem slA_l {K:PySem.W.Frag}{x:V}{lo hi:Option Int}{H:Hp}{Q:VK}(h:rSlL K x lo hi H Q):rSlA K x lo hi H Q:=h
noncomputable def mSlice (a:ME)(lo hi:MO):ME:=fun ρ μ=>(a ρ μ).bind fun p=>(lo ρ p.2).bind fun q=>(hi ρ q.2).bind fun r=>
 match p.1 with
 | .tup _=>none
 | x=>(seqD r.2 x).bind fun xs=>some (.loc r.2.length,r.2++[.lst (cutD xs q.1 r.1)])
theorem cut_is {K:PySem.W.Frag}{π:Nat->Addr}{n:Nat}{H:Hp}{vs:List V}{ds:List D}(h:IsDs K π n H vs ds)(lo hi:Option Int):IsDs K π n H (cutV vs lo hi) (cutD ds lo hi):=by
 unfold cutV cutD
 rw [h.length]
 exact (h.drop _).take _
theorem alloc_loc {K:PySem.W.Frag}{π:Nat->Addr}{μ:Hm}{p:Addr}{c:C}{H:Hp}:IsD K (ext1 π μ.length p) (μ++[c]).length H (.ref p) (.loc μ.length):=by
 have:=IsD.loc (K:=K) (π:=ext1 π μ.length p) (n:=(μ++[c]).length) (H:=H) (a:=μ.length) (by simp)
 rw [show ext1 π μ.length p μ.length=p from if_pos rfl] at this
 exact this
theorem pm_slice {lo hi:Option Expr}{ml mh:MO}{p2:Pos}(ha:PE X a (tM X.K ma))(hl:PO X lo (tMO X.K ml))(hu:PO X hi (tMO X.K mh)):PE X (.Subscript a (.Slice lo hi none p2) pos) (tM X.K (mSlice ma ml mh)):=pm_weak (pe_slice sl_any ha hl hu) (by
 rintro σ H Q ⟨π,ρ,μ,d,μ',R,E,hm,k⟩
 obtain ⟨⟨x,μ1⟩,h1,hm⟩:=Zb.mp hm
 obtain ⟨⟨l,μ2⟩,h2,hm⟩:=Zb.mp hm
 obtain ⟨⟨u,μ3⟩,h3,hm⟩:=Zb.mp hm
 refine ⟨π,ρ,μ,x,μ1,R,E,h1,fun π1 v1 H1 e1 R1 i1=>⟨π1,ρ,μ1,l,μ2,R1,E.mono e1,h2,fun π2 H2 e2 R2=>⟨π2,ρ,μ2,u,μ3,R2,(E.mono e1).mono e2,h3,fun π3 H3 e3 R3=>?_⟩⟩⟩
 have i3:=(i1.mono e2).mono e3
 cases i3 with
 | rol h t=>
  simp only [seqD,Option.bind_some] at hm
  cases hm
  refine slA_l ⟨_,_,rfl,h.sq,fun p hp=>?_⟩
  obtain ⟨e4,R4,q⟩:=R3.alloc (c:=.lst (cutD _ l u)) (o:=.lst (cutV _ l u)) hp (cut_is t l u)
  exact k _ _ _ (((e1.trans e2).trans e3).trans e4) R4 alloc_loc
 | @loc i hi'=>
  simp only [seqD] at hm
  split at hm
  ·rename_i xs hx
   simp only [Option.bind_some] at hm
   cases hm
   obtain ⟨vs,h5,h6⟩:=R3.lst i xs hx
   refine slA_l ⟨_,_,rfl,.of h5,fun p hp=>?_⟩
   obtain ⟨e4,R4,q⟩:=R3.alloc (c:=.lst (cutD xs l u)) (o:=.lst (cutV vs l u)) hp (cut_is h6 l u)
   exact k _ _ _ (((e1.trans e2).trans e3).trans e4) R4 alloc_loc
  ·cases hm
 | tup h t=>simp at hm
 | _=>simp [seqD] at hm)
end
section
variable {X:Cx}{e a b c:Expr}{m:ME}{pos:Pos}{mt:MT}{st:Stmt}{rest body orelse:List Stmt}{ms mr mu:MS}
noncomputable def mNext:MS:=fun ρ μ=>some (.nx,ρ,μ)
noncomputable def mSeq (a b:MS):MS:=fun ρ μ=>(a ρ μ).bind fun p=>match p.1 with|.nx=>b p.2.1 p.2.2|_=>some p
noncomputable def mRet (m:ME):MS:=fun ρ μ=>(m ρ μ).map fun p=>(.rt p.1,ρ,p.2)
noncomputable def mDrop (m:ME):MS:=fun ρ μ=>(m ρ μ).map fun p=>(.nx,ρ,p.2)
noncomputable def mIfS (t:MT)(a b:MS):MS:=fun ρ μ=>(t ρ μ).bind fun p=>match p.1 with|true=>a ρ p.2|false=>b ρ p.2
noncomputable def mSet (i:Nat)(m:ME):MS:=fun ρ μ=>(m ρ μ).map fun p=>(.nx,ρ.set i (some p.1),p.2)
theorem pmss_nil:PSs X [] (tMS X.K mNext):=pmss_weak pss_nil (by
 rintro E σ H ⟨π,ρ,μ,fl,ρ',μ',R,EN,hm,k⟩
 cases hm
 exact k π σ H .refl R EN)
theorem pmss_cons (h1:PS X st (tMS X.K ms))(h2:PSs X rest (tMS X.K mr)):PSs X (st::rest) (tMS X.K (mSeq ms mr)):=pmss_weak (pss_cons h1 h2) (by
 rintro E σ H ⟨π,ρ,μ,fl,ρ',μ',R,EN,hm,k⟩
 obtain ⟨⟨f1,ρ1,μ1⟩,h1,hm⟩:=Zb.mp hm
 refine ⟨π,ρ,μ,f1,ρ1,μ1,R,EN,h1,?_⟩
 cases f1 with
 | nx=>
  intro π1 σ1 H1 e1 R1 E1
  refine ⟨π1,ρ1,μ1,fl,ρ',μ',R1,E1,hm,?_⟩
  cases fl with
  | nx=>exact fun π2 σ2 H2 e2 R2 E2=>k π2 σ2 H2 (e1.trans e2) R2 E2
  | bk=>exact fun π2 σ2 H2 e2 R2 E2=>k π2 σ2 H2 (e1.trans e2) R2 E2
  | ct=>exact fun π2 σ2 H2 e2 R2 E2=>k π2 σ2 H2 (e1.trans e2) R2 E2
  | rt d=>exact KC.after k e1
 | rt d=>cases hm;exact k
 | bk=>cases hm;exact k
 | ct=>cases hm;exact k)
theorem pmss_one (h1:PS X st (tMS X.K ms)):PSs X [st] (tMS X.K ms):=pss_one h1
theorem pms_pass:PS X (.Pass pos) (tMS X.K mNext):=pms_weak ps_pass (by
 rintro E σ H ⟨π,ρ,μ,fl,ρ',μ',R,EN,hm,k⟩
 cases hm
 exact k π σ H .refl R EN)
theorem pms_ret (he:PE X e (tM X.K m)):PS X (.Return (some e) pos) (tMS X.K (mRet m)):=pms_weak (ps_ret he) (by
 rintro E σ H ⟨π,ρ,μ,fl,ρ',μ',R,EN,hm,k⟩
 obtain ⟨⟨x,μ1⟩,h1,hm⟩:=Zm.mp hm
 cases hm
 exact ⟨π,ρ,μ,x,μ1,R,EN,h1,k⟩)
theorem pms_expr (he:PE X e (tM X.K m))(hs:swapsWith e none pos.line X.env=pure false:=by rfl):PS X (.Expr e pos) (tMS X.K (mDrop m)):=pms_weak (ps_expr he hs) (by
 rintro E σ H ⟨π,ρ,μ,fl,ρ',μ',R,EN,hm,k⟩
 obtain ⟨⟨x,μ1⟩,h1,hm⟩:=Zm.mp hm
 cases hm
 exact ⟨π,ρ,μ,x,μ1,R,EN,h1,fun π1 v1 H1 e1 R1 i1=>k π1 σ H1 e1 R1 (EN.mono e1)⟩)
theorem pms_if (hc:PT X c (tMT X.K mt))(ha:PSs X body (tMS X.K ms))(hb:PSs X orelse (tMS X.K mu)):PS X (.If c body orelse pos) (tMS X.K (mIfS mt ms mu)):=pms_weak (ps_if hc ha hb) (by
 rintro E σ H ⟨π,ρ,μ,fl,ρ',μ',R,EN,hm,k⟩
 obtain ⟨⟨x,μ1⟩,h1,hm⟩:=Zb.mp hm
 refine ⟨π,ρ,μ,x,μ1,R,EN,h1,fun π1 H1 e1 R1=>?_⟩
 have k':FlOk X.K E π1 μ1.length H1 fl ρ' μ':=by
  cases fl with
  | nx=>exact fun π2 σ2 H2 e2 R2 E2=>k π2 σ2 H2 (e1.trans e2) R2 E2
  | bk=>exact fun π2 σ2 H2 e2 R2 E2=>k π2 σ2 H2 (e1.trans e2) R2 E2
  | ct=>exact fun π2 σ2 H2 e2 R2 E2=>k π2 σ2 H2 (e1.trans e2) R2 E2
  | rt d=>exact KC.after k e1
 cases x with
 | true=>
  refine iteT ?_
  exact ⟨π1,ρ,μ1,fl,ρ',μ',R1,EN.mono e1,hm,k'⟩
 | false=>
  refine iteF ?_
  exact ⟨π1,ρ,μ1,fl,ρ',μ',R1,EN.mono e1,hm,k'⟩)
theorem pms_set {i:Nat}{x:Str}{pos':Pos}(hN:X.N.Nodup)(hi:X.N[i]? = some x)(hx:Loc X.env.scope x)(he:PE X e (tM X.K m))(hs:swapsWith e (some (.Name x pos')) pos.line X.env=pure false:=by rfl)
  (hf:X.fn x=true\/X.env.scope.names.lookup x=some .local:=by first|exact .inl rfl|exact .inr rfl|assumption):PS X (.Assign [.Name x pos'] e pos) (tMS X.K (mSet i m)):=pms_weak (ps_set hN hi hx he hs hf) (by
 rintro E σ H ⟨π,ρ,μ,fl,ρ',μ',R,EN,hm,k⟩
 obtain ⟨⟨x,μ1⟩,h1,hm⟩:=Zm.mp hm
 cases hm
 exact ⟨π,ρ,μ,x,μ1,R,EN,h1,fun π1 v1 H1 e1 R1 i1=>k π1 _ H1 e1 R1 ((EN.mono e1).set i1 i)⟩)
end
noncomputable def startM (n:Nat)(ds:List D):Rho:=ds.map some++List.replicate (n - ds.length) none
noncomputable def runM (n:Nat)(m:MS):MF:=fun ds μ=>(m (startM n ds) μ).bind fun p=>match p.1 with|.rt d=>some (d,p.2.2)|.nx=>some (.non,p.2.2)|_=>none
theorem start_en {K:PySem.W.Frag}{π:Nat->Addr}{n:Nat}{H:Hp}{N:List Str}{vs:List V}{ds:List D}(h:IsDs K π n H vs ds)(hl:vs.length<=N.length):En K π n H (L2.start N vs) (startM N.length ds):=by
 have hlen:=h.length
 refine ⟨by simp [L2.start,startM,hlen],fun i d e=>?_⟩
 unfold startM at e
 unfold L2.start
 by_cases hi:i<ds.length
 ·rw [List.getElem?_append_left (by simpa using hi),List.getElem?_map] at e
  obtain ⟨d',h1,h2⟩:=Zm.mp e
  cases h2
  obtain ⟨v,h3,h4⟩:=h.get h1
  exact ⟨v,by rw [List.getElem?_append_left (by rw [Zl,hlen];exact hi),List.getElem?_map,h3];rfl,h4⟩
 ·rw [List.getElem?_append_right (by simpa using Nat.not_lt.mp hi)] at e
  have:=List.getElem?_replicate (n:=N.length - ds.length) (a:=(none:Option D)) (i:=i - (ds.map some).length)
  rw [this] at e
  split at e<;>simp at e
section
variable {P:Program}{w:World}{K:PySem.W.Frag}{mg:Str->Option Value}{base:Heap}
theorem fn_ok {x qual:Str}{st:Stmt}{f:Addr}{fd:FuncData}{N ps:List Str}{k:Nat}{m:MS}(F:Fun K x qual st f fd)(S:FnScope N ps (defScope st))(hps:ps.length<=N.length)
  (hbody:∀ (cdv:Value)(A:Around)(outer:List Env)(s:Shared)(H:Hp)(E:XK),Room k (A.deeper (PyProof.Rows.envOfC qual (defScope st) s.heap.objs.size f cdv))->
   PSs (cxOf CX0 P w K mg base N qual (defScope st) f cdv A outer s H E).nox (defBody st) (tMS K m)):FnOk P w K mg base CX0 (k+1) f fd ps (spM K ps.length (runM N.length m)):=by
 refine F.ok S (fun vs H Q E h=>h.1) fun cdv A outer s H vs Q E hr h=>⟨_,hbody cdv A outer s H E hr,?_⟩
 obtain ⟨hv,π,ds,μ,d,μ',R,i,hm,kc⟩:=h
 obtain ⟨⟨fl,ρ',μ1⟩,h1,hm⟩:=Zb.mp hm
 refine ⟨π,_,μ,fl,ρ',μ1,R,start_en i (by rw [hv];exact hps),h1,?_⟩
 cases fl with
 | rt d'=>cases hm;exact kc
 | nx=>cases hm;exact fun π1 σ1 H1 e1 R1 E1=>kc π1 .non H1 e1 R1 .non
 | bk=>cases hm
 | ct=>cases hm
end
end L3
namespace L3
open PySem L2
open SeqAt (EqAt RcAt RcNeAt)
inductive KD where
 | non|bl (b:Bool)|int (i:Int)|str (x:Str)|tup (n:Nat)|lst (n:Nat)
inductive IsK (s:Shared):Value->KD->Prop where
 | non:IsK s .none .non
 | bl (b:Bool):IsK s (.bool b) (.bl b)
 | int (i:Int)(t:Tok):IsK s (.int i t) (.int i)
 | str (x:Str)(t:Tok):IsK s (.str x t) (.str x)
 | tup {l:Addr}{its:List Value}(h:s.heap.IsTuple l its.toArray):IsK s (.ref l) (.tup its.length)
 | lst {l:Addr}{its:List Value}(h:s.heap.IsList l its.toArray):IsK s (.ref l) (.lst its.length)
noncomputable def eqK (e:Nat->Bool):KD->KD->Bool
 | .non,.non=>true
 | .bl a,.bl b=>a == b
 | .bl a,.int b=>(if a then 1 else 0) == b
 | .int a,.bl b=>a == (if b then 1 else 0)
 | .int a,.int b=>a == b
 | .str a,.str b=>a == b
 | .tup n,.tup k=>(List.range (min n k)).all e&&n == k
 | .lst n,.lst k=>(List.range (min n k)).all e&&n == k
 | _,_=>false
noncomputable def ItemsEq (A:Around)(s:Shared)(u v:Value)(e:Nat->Bool):Prop:=
 (∀ l b items items2,u=.ref l->v=.ref b->s.heap.IsTuple l items->s.heap.IsTuple b items2->∀ j (h1:j<items.size)(h2:j<items2.size),EqAt A.in1 s items[j] items2[j] (e j)) /\
 (∀ l b items items2,u=.ref l->v=.ref b->s.heap.IsList l items->s.heap.IsList b items2->∀ j (h1:j<items.size)(h2:j<items2.size),EqAt A.in1 s items[j] items2[j] (e j))
section
variable {A:Around}{s:Shared}{u v:Value}{k k':KD}{e:Nat->Bool}
theorem list_res {n k:Nat}(e:Nat->Bool)(h:n=k):((List.range (min n k)).all e&&n == k)=(List.range n).all e:=by
 subst h
 simp
theorem list_res_ne {n k:Nat}(e:Nat->Bool)(h:n≠k):((List.range (min n k)).all e&&n == k)=false:=by
 simp [h]
theorem rc_of (h:IsK s u k)(h':IsK s v k')(hu:A.units<cLine)(he:ItemsEq A s u v e):RcAt A s u v (eqK e k k'):=by
 cases h with
 | non=>
  cases h' with
  | non=>exact RcAt.none_none
  | bl b=>exact RcAt.none_bool b
  | int i t=>exact RcAt.none_int i t
  | str x t=>exact RcAt.none_str x t
  | tup h=>exact RcAt.none_tuple h hu
  | lst h=>exact RcAt.none_list h hu
 | bl a=>
  cases h' with
  | non=>exact RcAt.bool_none a
  | bl b=>exact RcAt.bool_bool a b
  | int i t=>exact RcAt.bool_int a i t
  | str x t=>exact RcAt.bool_str a x t
  | tup h=>exact RcAt.bool_tuple a h hu
  | lst h=>exact RcAt.bool_list a h hu
 | int a ta=>
  cases h' with
  | non=>exact RcAt.int_none a ta
  | bl b=>exact RcAt.int_bool a ta b
  | int i t=>exact RcAt.int_int a ta i t
  | str x t=>exact RcAt.int_str a ta x t
  | tup h=>exact RcAt.int_tuple a ta h hu
  | lst h=>exact RcAt.int_list a ta h hu
 | str a ta=>
  cases h' with
  | non=>exact RcAt.str_none a ta
  | bl b=>exact RcAt.str_bool a ta b
  | int i t=>exact RcAt.str_int a ta i t
  | str x t=>exact RcAt.str_str a ta x t
  | tup h=>exact RcAt.str_tuple a ta h hu
  | lst h=>exact RcAt.str_list a ta h hu
 | tup g=>
  cases h' with
  | non=>exact RcAt.tuple_none g hu
  | bl b=>exact RcAt.tuple_bool b g hu
  | int i t=>exact RcAt.tuple_int i t g hu
  | str x t=>exact RcAt.tuple_str x t g hu
  | tup h=>
   have:=RcAt.tuples (e:=e) g h hu (he.1 _ _ _ _ rfl rfl g h)
   simpa [eqK] using this
  | lst h=>exact RcAt.tuple_list g h hu
 | lst g=>
  cases h' with
  | non=>exact RcAt.list_none g hu
  | bl b=>exact RcAt.list_bool b g hu
  | int i t=>exact RcAt.list_int i t g hu
  | str x t=>exact RcAt.list_str x t g hu
  | tup h=>exact RcAt.list_tuple g h hu
  | @lst b its2 h=>
   rename_i l its
   by_cases hl:its.length=its2.length
   ·have:=RcAt.lists (e:=e) g h (by simpa using hl) hu (he.2 _ _ _ _ rfl rfl g h)
    show RcAt A s _ _ ((List.range (min its.length its2.length)).all e&&its.length == its2.length)
    rw [list_res e hl]
    simpa using this
   ·have:=RcAt.lists_lengths g h (by simpa using hl) hu
    show RcAt A s _ _ ((List.range (min its.length its2.length)).all e&&its.length == its2.length)
    rw [list_res_ne e hl]
    exact this
theorem rcNe_of (h:IsK s u k)(h':IsK s v k')(hu:A.units<cLine)(he:ItemsEq A s u v e):RcNeAt A s u v (!eqK e k k'):=by
 cases h with
 | non=>
  cases h' with
  | non=>exact RcNeAt.none_none
  | bl b=>exact RcNeAt.none_bool b
  | int i t=>exact RcNeAt.none_int i t
  | str x t=>exact RcNeAt.none_str x t
  | tup h=>exact RcNeAt.none_tuple h hu
  | lst h=>exact RcNeAt.none_list h hu
 | bl a=>
  cases h' with
  | non=>exact RcNeAt.bool_none a
  | bl b=>exact RcNeAt.bool_bool a b
  | int i t=>exact RcNeAt.bool_int a i t
  | str x t=>exact RcNeAt.bool_str a x t
  | tup h=>exact RcNeAt.bool_tuple a h hu
  | lst h=>exact RcNeAt.bool_list a h hu
 | int a ta=>
  cases h' with
  | non=>exact RcNeAt.int_none a ta
  | bl b=>exact RcNeAt.int_bool a ta b
  | int i t=>exact RcNeAt.int_int a ta i t
  | str x t=>exact RcNeAt.int_str a ta x t
  | tup h=>exact RcNeAt.int_tuple a ta h hu
  | lst h=>exact RcNeAt.int_list a ta h hu
 | str a ta=>
  cases h' with
  | non=>exact RcNeAt.str_none a ta
  | bl b=>exact RcNeAt.str_bool a ta b
  | int i t=>exact RcNeAt.str_int a ta i t
  | str x t=>exact RcNeAt.str_str a ta x t
  | tup h=>exact RcNeAt.str_tuple a ta h hu
  | lst h=>exact RcNeAt.str_list a ta h hu
 | tup g=>
  cases h' with
  | non=>exact RcNeAt.tuple_none g hu
  | bl b=>exact RcNeAt.tuple_bool b g hu
  | int i t=>exact RcNeAt.tuple_int i t g hu
  | str x t=>exact RcNeAt.tuple_str x t g hu
  | tup h=>
   have:=RcNeAt.tuples (e:=e) g h hu (he.1 _ _ _ _ rfl rfl g h)
   simpa [eqK] using this
  | lst h=>exact RcNeAt.tuple_list g h hu
 | lst g=>
  cases h' with
  | non=>exact RcNeAt.list_none g hu
  | bl b=>exact RcNeAt.list_bool b g hu
  | int i t=>exact RcNeAt.list_int i t g hu
  | str x t=>exact RcNeAt.list_str x t g hu
  | tup h=>exact RcNeAt.list_tuple g h hu
  | @lst b its2 h=>
   rename_i l its
   by_cases hl:its.length=its2.length
   ·have:=RcNeAt.lists (e:=e) g h (by simpa using hl) hu (he.2 _ _ _ _ rfl rfl g h)
    show RcNeAt A s _ _ (!((List.range (min its.length its2.length)).all e&&its.length == its2.length))
    rw [list_res e hl]
    simpa using this
   ·have:=RcNeAt.lists_lengths g h (by simpa using hl) hu
    show RcNeAt A s _ _ (!((List.range (min its.length its2.length)).all e&&its.length == its2.length))
    rw [list_res_ne e hl]
    exact this
theorem eq_of (h:IsK s u k)(h':IsK s v k')(hu:A.units<cLine)(he:ItemsEq A s u v e)(hne:∀ l b,u=.ref l->v=.ref b->l≠b):EqAt A s u v (eqK e k k'):=by
 cases h with
 | non=>
  cases h' with
  | non=>exact EqAt.same _
  | bl b=>exact EqAt.none_bool b
  | int i t=>exact EqAt.none_int i t
  | str x t=>exact EqAt.none_str x t
  | tup h=>exact EqAt.none_tuple h hu
  | lst h=>exact EqAt.none_list h hu
 | bl a=>
  cases h' with
  | non=>exact EqAt.bool_none a
  | bl b=>exact EqAt.bool_bool a b
  | int i t=>exact EqAt.bool_int a i t
  | str x t=>exact EqAt.bool_str a x t
  | tup h=>exact EqAt.bool_tuple a h hu
  | lst h=>exact EqAt.bool_list a h hu
 | int a ta=>
  cases h' with
  | non=>exact EqAt.int_none a ta
  | bl b=>exact EqAt.int_bool a ta b
  | int i t=>exact EqAt.int_int a ta i t
  | str x t=>exact EqAt.int_str a ta x t
  | tup h=>exact EqAt.int_tuple a ta h hu
  | lst h=>exact EqAt.int_list a ta h hu
 | str a ta=>
  cases h' with
  | non=>exact EqAt.str_none a ta
  | bl b=>exact EqAt.str_bool a ta b
  | int i t=>exact EqAt.str_int a ta i t
  | str x t=>exact EqAt.str_str a ta x t
  | tup h=>exact EqAt.str_tuple a ta h hu
  | lst h=>exact EqAt.str_list a ta h hu
 | @tup l its g=>
  cases h' with
  | non=>exact EqAt.tuple_none g hu
  | bl b=>exact EqAt.tuple_bool b g hu
  | int i t=>exact EqAt.tuple_int i t g hu
  | str x t=>exact EqAt.tuple_str x t g hu
  | @tup b its2 h=>exact EqAt.of_refs (hne l b rfl rfl) (rc_of (k:=.tup its.length) (k':=.tup its2.length) (.tup g) (.tup h) hu he)
  | lst h=>exact EqAt.tuple_list g h hu
 | @lst l its g=>
  cases h' with
  | non=>exact EqAt.list_none g hu
  | bl b=>exact EqAt.list_bool b g hu
  | int i t=>exact EqAt.list_int i t g hu
  | str x t=>exact EqAt.list_str x t g hu
  | tup h=>exact EqAt.list_tuple g h hu
  | @lst b its2 h=>exact EqAt.of_refs (hne l b rfl rfl) (rc_of (k:=.lst its.length) (k':=.lst its2.length) (.lst g) (.lst h) hu he)
end
inductive KdD where
 | non|bl (b:Bool)|int (i:Int)|str (x:Str)|tup (xs:List D)|lst (xs:List D)
noncomputable def kindD (μ:Hm):D->Option KdD
 | .non=>some .non
 | .bl b=>some (.bl b)
 | .int i=>some (.int i)
 | .str x=>some (.str x)
 | .tup xs=>some (.tup xs)
 | .rol xs=>some (.lst xs)
 | .loc a=>match μ[a]? with|some (.lst xs)=>some (.lst xs)|_=>none
 | .ty _=>none
noncomputable def eqs (f:D->D->Option Bool):List D->List D->Option Bool
 | x::xs,y::ys=>(f x y).bind fun b=>(eqs f xs ys).map fun c=>b&&c
 | [],[]=>some true
 | _,_=>some false
noncomputable def eqKd (f:D->D->Option Bool):KdD->KdD->Option Bool
 | .non,.non=>some true
 | .bl a,.bl b=>some (a == b)
 | .bl a,.int b=>some ((if a then 1 else 0) == b)
 | .int a,.bl b=>some (a == (if b then 1 else 0))
 | .int a,.int b=>some (a == b)
 | .str a,.str b=>some (a == b)
 | .tup xs,.tup ys=>eqs f xs ys
 | .lst xs,.lst ys=>eqs f xs ys
 | _,_=>some false
noncomputable def eqD:Nat->Hm->D->D->Option Bool
 | 0,_,_,_=>none
 | n+1,μ,x,y=>(kindD μ x).bind fun a=>(kindD μ y).bind fun b=>eqKd (eqD n μ) a b
noncomputable def kdOf:KdD->KD
 | .non=>.non|.bl b=>.bl b|.int i=>.int i|.str x=>.str x|.tup xs=>.tup xs.length|.lst xs=>.lst xs.length
noncomputable def itsOf:KdD->List D
 | .tup xs=>xs|.lst xs=>xs|_=>[]
section
variable {X:Cx}{pins:List (Addr×Obj)}{σ:St}{H:Hp}{s:Shared}{π:Nat->Addr}{μ:Hm}
inductive KdAt (X:Cx)(π:Nat->Addr)(n:Nat)(H:Hp)(s:Shared)(u:Value):KdD->Prop where
 | non (h:u=.none):KdAt X π n H s u .non
 | bl (b:Bool)(h:u=.bool b):KdAt X π n H s u (.bl b)
 | int (i:Int)(t:Tok)(h:u=.int i t):KdAt X π n H s u (.int i)
 | str (x:Str)(t:Tok)(h:u=.str x t):KdAt X π n H s u (.str x)
 | tup {xs:List D}(p:Addr)(vs:List V)(its:List Value)(h:u=.ref p)(q:SqT X.K H p vs)(i:IsDs X.K π n H vs xs)(r:Vals vs its)(t:s.heap.IsTuple p its.toArray):KdAt X π n H s u (.tup xs)
 | lst {xs:List D}(p:Addr)(vs:List V)(its:List Value)(h:u=.ref p)(q:SqL X.K H p vs)(i:IsDs X.K π n H vs xs)(r:Vals vs its)(t:s.heap.IsList p its.toArray):KdAt X π n H s u (.lst xs)
theorem kd_at (I:Inv X pins σ H s)(R:Rp X.K π H μ){v:V}{d:D}{u:Value}(h:IsD X.K π μ.length H v d)(r:RelV v u){k:KdD}(e:kindD μ d=some k):KdAt X π μ.length H s u k:=by
 cases h with
 | non=>cases e;exact .non r
 | bl b=>cases e;exact .bl b r
 | int i=>cases e;obtain ⟨t,q⟩:=r;exact .int i t q
 | str x=>cases e;obtain ⟨t,q⟩:=r;exact .str x t q
 | ty x=>cases e
 | tup q t=>
  cases e
  obtain ⟨its,r',p,_⟩:=I.tuple q
  exact .tup _ _ its r q t r' p
 | rol q t=>
  cases e
  obtain ⟨its,r',p,_⟩:=I.list q.sq
  exact .lst _ _ its r q.sq t r' p.isList
 | @loc a ha=>
  simp only [kindD] at e
  split at e
  ·rename_i xs hx
   cases e
   obtain ⟨vs,h1,h2⟩:=R.lst a xs hx
   have q:SqL X.K H (π a) vs:=.of h1
   obtain ⟨its,r',p,_⟩:=I.list q
   exact .lst _ _ its r q h2 r' p.isList
  ·cases e
theorem KdAt.isK {u:Value}{k:KdD}{n:Nat}(h:KdAt X π n H s u k):IsK s u (kdOf k):=by
 cases h with
 | non h=>subst h;exact .non
 | bl b h=>subst h;exact .bl b
 | int i t h=>subst h;exact .int i t
 | str x t h=>subst h;exact .str x t
 | tup p vs its h q i r t=>
  subst h
  have:its.length=_:=r.length.symm.trans i.length
  show IsK s (.ref p) (.tup _)
  rw [<- this]
  exact .tup t
 | lst p vs its h q i r t=>
  subst h
  have:its.length=_:=r.length.symm.trans i.length
  show IsK s (.ref p) (.lst _)
  rw [<- this]
  exact .lst t
noncomputable def ansAt (f:D->D->Option Bool)(xs ys:List D)(j:Nat):Bool:=match xs[j]?,ys[j]? with
 | some x,some y=>(f x y).getD false
 | _,_=>false
theorem eqs_ans {f:D->D->Option Bool}:∀ {xs ys:List D}{b:Bool},eqs f xs ys=some b->b=((List.range (min xs.length ys.length)).all (ansAt f xs ys)&&xs.length == ys.length)/\∀ (j:Nat) x y,xs[j]? = some x->ys[j]? = some y->f x y=some (ansAt f xs ys j)
 | [],[],b,h=>by
  cases h
  exact ⟨rfl,fun j x y e=>by simp at e⟩
 | x::xs,[],b,h=>by
  cases h
  exact ⟨by simp,fun j x y _ e=>by simp at e⟩
 | [],y::ys,b,h=>by
  cases h
  exact ⟨by simp,fun j x y e=>by simp at e⟩
 | x::xs,y::ys,b,h=>by
  simp only [eqs] at h
  obtain ⟨c,h1,h2⟩:=Zb.mp h
  obtain ⟨d,h3,h4⟩:=Zm.mp h2
  obtain ⟨i1,i2⟩:=eqs_ans h3
  have h0:ansAt f (x::xs) (y::ys) 0=c:=by simp [ansAt,h1]
  have hs:∀ j,ansAt f (x::xs) (y::ys) (j+1)=ansAt f xs ys j:=fun j=>by simp [ansAt]
  refine ⟨?_,fun j x' y' e1 e2=>?_⟩
  ·subst h4
   rw [i1]
   simp only [List.length_cons,Nat.add_min_add_right]
   rw [List.range_succ_eq_map,List.all_cons,List.all_map,h0]
   have:(ansAt f (x::xs) (y::ys) ∘ Nat.succ)=ansAt f xs ys:=funext fun j=>hs j
   rw [this]
   simp [Bool.and_assoc]
  ·cases j with
   | zero=>
    simp at e1 e2
    subst e1;subst e2
    rw [h0,h1]
   | succ j=>
    rw [hs j]
    exact i2 j x' y' (by simpa using e1) (by simpa using e2)
theorem eqKd_ans {f:D->D->Option Bool}{k k':KdD}{b:Bool}(h:eqKd f k k'=some b):b=eqK (ansAt f (itsOf k) (itsOf k')) (kdOf k) (kdOf k'):=by
 cases k<;>cases k'<;>simp only [eqKd] at h<;>first
  | (have h':=Option.some.inj h;subst h';rfl)
  | (obtain ⟨h1,_⟩:=eqs_ans h;rw [h1];rfl)
theorem eq_same (I:Inv X pins σ H s)(R:Rp X.K π H μ):∀ (n:Nat){v:V}{u:Value}{x y:D}{b:Bool},RelV v u->IsD X.K π μ.length H v x->IsD X.K π μ.length H v y->eqD n μ x y=some b->b=true:=by
 intro n
 induction n with
 | zero=>intro v u x y b _ _ _ h;cases h
 | succ n ih=>
  intro v u x y b r hx hy h
  obtain ⟨k,h1,h⟩:=Zb.mp h
  obtain ⟨k',h2,h⟩:=Zb.mp h
  have a1:=kd_at I R hx r h1
  have a2:=kd_at I R hy r h2
  have lists:∀ {vs:List V}{xs ys:List D}{c:Bool},(∀ v∈vs,∃ u,RelV v u)->IsDs X.K π μ.length H vs xs->IsDs X.K π μ.length H vs ys->eqs (eqD n μ) xs ys=some c->c=true:=by
   intro vs
   induction vs with
   | nil=>intro xs ys c _ i1 i2 h;cases i1;cases i2;cases h;rfl
   | cons w vs ihv=>
    intro xs ys c hr i1 i2 h
    cases i1 with
    | cons p1 t1=>
     cases i2 with
     | cons p2 t2=>
      simp only [eqs] at h
      obtain ⟨c1,h1,h3⟩:=Zb.mp h
      obtain ⟨c2,h4,h5⟩:=Zm.mp h3
      obtain ⟨u',ru⟩:=hr w (List.mem_cons_self ..)
      have e1:=ih ru p1 p2 h1
      have e2:=ihv (fun v hv=>hr v (List.mem_cons_of_mem _ hv)) t1 t2 h4
      subst e1;subst e2
      exact h5.symm
  cases a1 with
  | non e1=>
   subst e1
   cases a2 with
   | non _=>simp only [eqKd] at h;exact (Option.some.inj h).symm
   | bl _ e=>cases e
   | int _ _ e=>cases e
   | str _ _ e=>cases e
   | tup _ _ _ e=>cases e
   | lst _ _ _ e=>cases e
  | bl c e1=>
   subst e1
   cases a2 with
   | non e=>cases e
   | bl _ e=>cases e;simp only [eqKd,beq_self_eq_true] at h;exact (Option.some.inj h).symm
   | int _ _ e=>cases e
   | str _ _ e=>cases e
   | tup _ _ _ e=>cases e
   | lst _ _ _ e=>cases e
  | int c t e1=>
   subst e1
   cases a2 with
   | non e=>cases e
   | bl _ e=>cases e
   | int _ _ e=>cases e;simp only [eqKd,beq_self_eq_true] at h;exact (Option.some.inj h).symm
   | str _ _ e=>cases e
   | tup _ _ _ e=>cases e
   | lst _ _ _ e=>cases e
  | str c t e1=>
   subst e1
   cases a2 with
   | non e=>cases e
   | bl _ e=>cases e
   | int _ _ e=>cases e
   | str _ _ e=>cases e;simp only [eqKd,beq_self_eq_true] at h;exact (Option.some.inj h).symm
   | tup _ _ _ e=>cases e
   | lst _ _ _ e=>cases e
  | tup p vs its e1 q i rv t=>
   have z:KdAt X π μ.length H s (.ref p) _:=e1 ▸ KdAt.tup p vs its e1 q i rv t
   rw [e1] at a2
   cases a2 with
   | non e=>cases e
   | bl _ e=>cases e
   | int _ _ e=>cases e
   | str _ _ e=>cases e
   | tup p2 vs2 its2 e2 q2 i2 rv2 t2=>
    cases e2
    have:=I.tuple_inj q q2
    subst this
    exact lists (fun v hv=>by
     obtain ⟨j,hj,rfl⟩:=List.getElem_of_mem hv
     obtain ⟨u',_,ru⟩:=rv.get (List.getElem?_eq_getElem hj)
     exact ⟨u',ru⟩) i i2 h
   | lst p2 vs2 its2 e2 q2 i2 rv2 t2=>
    cases e2
    exact absurd rfl (SeqAt.ne_of_list_tuple t2 t)
  | lst p vs its e1 q i rv t=>
   rw [e1] at a2
   cases a2 with
   | non e=>cases e
   | bl _ e=>cases e
   | int _ _ e=>cases e
   | str _ _ e=>cases e
   | tup p2 vs2 its2 e2 q2 i2 rv2 t2=>
    cases e2
    exact absurd rfl (SeqAt.ne_of_list_tuple t t2)
   | lst p2 vs2 its2 e2 q2 i2 rv2 t2=>
    cases e2
    have:=I.list_inj q q2
    subst this
    exact lists (fun v hv=>by
     obtain ⟨j,hj,rfl⟩:=List.getElem_of_mem hv
     obtain ⟨u',_,ru⟩:=rv.get (List.getElem?_eq_getElem hj)
     exact ⟨u',ru⟩) i i2 h
theorem in1_units (A:Around):A.in1.units=A.units+1:=rfl
theorem items_eq (I:Inv X pins σ H s){A:Around}{n:Nat}(ih:∀ {A:Around}{v v':V}{u u':Value}{x y:D}{b:Bool},A.units+n<cLine->RelV v u->RelV v' u'->IsD X.K π μ.length H v x->IsD X.K π μ.length H v' y->eqD n μ x y=some b->EqAt A s u u' b)
  (hu:A.units+(n+1)<cLine){u u':Value}{k k':KdD}{b:Bool}(a1:KdAt X π μ.length H s u k)(a2:KdAt X π μ.length H s u' k')(h:eqKd (eqD n μ) k k'=some b):ItemsEq A s u u' (ansAt (eqD n μ) (itsOf k) (itsOf k')):=by
 have core:∀ {vs vs':List V}{its its':List Value}{xs ys:List D}{c:Bool},Vals vs its->Vals vs' its'->IsDs X.K π μ.length H vs xs->IsDs X.K π μ.length H vs' ys->eqs (eqD n μ) xs ys=some c->
   ∀ j (h1:j<its.length)(h2:j<its'.length),EqAt A.in1 s its[j] its'[j] (ansAt (eqD n μ) xs ys j):=by
  intro vs vs' its its' xs ys c r r' i i' e j h1 h2
  have l1:=r.length
  have l2:=r'.length
  have l3:=i.length
  have l4:=i'.length
  have hx:xs[j]? = some (xs[j]'(by omega)):=List.getElem?_eq_getElem _
  have hy:ys[j]? = some (ys[j]'(by omega)):=List.getElem?_eq_getElem _
  obtain ⟨v,v1,v2⟩:=i.get hx
  obtain ⟨v',v1',v2'⟩:=i'.get hy
  obtain ⟨w,w1,w2⟩:=r.get v1
  obtain ⟨w',w1',w2'⟩:=r'.get v1'
  rw [List.getElem?_eq_getElem h1] at w1
  rw [List.getElem?_eq_getElem h2] at w1'
  cases w1
  cases w1'
  exact ih (by rw [in1_units];omega) w2 w2' v2 v2' ((eqs_ans e).2 j _ _ hx hy)
 constructor
 ·intro l b' items items2 e1 e2 t1 t2 j h1 h2
  subst e1;subst e2
  cases a1 with
  | tup p vs its e q i r t=>
   cases e
   cases a2 with
   | tup p2 vs2 its2 e' q2 i2 r2 t'=>
    cases e'
    have z1:items=its.toArray:=by
     obtain ⟨o,g1,g2,n1,g3⟩:=t1
     obtain ⟨o',g1',g2',n1',g3'⟩:=t
     rw [g1] at g1';cases g1'
     rw [g3] at g3'
     injection g3'
    have z2:items2=its2.toArray:=by
     obtain ⟨o,g1,g2,n1,g3⟩:=t2
     obtain ⟨o',g1',g2',n1',g3'⟩:=t'
     rw [g1] at g1';cases g1'
     rw [g3] at g3'
     injection g3'
    subst z1;subst z2
    have:=core r r2 i i2 h j (by simpa using h1) (by simpa using h2)
    simpa [itsOf] using this
   | lst p2 vs2 its2 e' q2 i2 r2 t'=>
    cases e'
    exact absurd rfl (SeqAt.ne_of_list_tuple t' t2)
   | non e'=>cases e'
   | bl _ e'=>cases e'
   | int _ _ e'=>cases e'
   | str _ _ e'=>cases e'
  | lst p vs its e q i r t=>
   cases e
   exact absurd rfl (SeqAt.ne_of_list_tuple t t1)
  | non e=>cases e
  | bl _ e=>cases e
  | int _ _ e=>cases e
  | str _ _ e=>cases e
 ·intro l b' items items2 e1 e2 t1 t2 j h1 h2
  subst e1;subst e2
  cases a1 with
  | lst p vs its e q i r t=>
   cases e
   cases a2 with
   | lst p2 vs2 its2 e' q2 i2 r2 t'=>
    cases e'
    have z1:items=its.toArray:=by
     obtain ⟨o,g1,g2,n1,g3⟩:=t1
     obtain ⟨o',g1',g2',n1',g3'⟩:=t
     rw [g1] at g1';cases g1'
     rw [g3] at g3'
     injection g3'
    have z2:items2=its2.toArray:=by
     obtain ⟨o,g1,g2,n1,g3⟩:=t2
     obtain ⟨o',g1',g2',n1',g3'⟩:=t'
     rw [g1] at g1';cases g1'
     rw [g3] at g3'
     injection g3'
    subst z1;subst z2
    have:=core r r2 i i2 h j (by simpa using h1) (by simpa using h2)
    simpa [itsOf] using this
   | tup p2 vs2 its2 e' q2 i2 r2 t'=>
    cases e'
    exact absurd rfl (SeqAt.ne_of_list_tuple t2 t')
   | non e'=>cases e'
   | bl _ e'=>cases e'
   | int _ _ e'=>cases e'
   | str _ _ e'=>cases e'
  | tup p vs its e q i r t=>
   cases e
   exact absurd rfl (SeqAt.ne_of_list_tuple t1 t)
  | non e=>cases e
  | bl _ e=>cases e
  | int _ _ e=>cases e
  | str _ _ e=>cases e
theorem eq_at (I:Inv X pins σ H s)(R:Rp X.K π H μ):∀ (n:Nat){A:Around}{v v':V}{u u':Value}{x y:D}{b:Bool},A.units+n<cLine->RelV v u->RelV v' u'->IsD X.K π μ.length H v x->IsD X.K π μ.length H v' y->eqD n μ x y=some b->EqAt A s u u' b:=by
 intro n
 induction n with
 | zero=>intro A v v' u u' x y b _ _ _ _ _ h;cases h
 | succ n ih=>
  intro A v v' u u' x y b hu r r' hx hy h
  have h0:=h
  obtain ⟨k,h1,h⟩:=Zb.mp h
  obtain ⟨k',h2,h⟩:=Zb.mp h
  have a1:=kd_at I R hx r h1
  have a2:=kd_at I R hy r' h2
  by_cases hs:u=u'
  ·subst hs
   have:v=v':=r.inj r'
   subst this
   have:=eq_same I R (n+1) r hx hy h0
   subst this
   exact EqAt.same _
  ·have he:=items_eq I ih hu a1 a2 h
   rw [eqKd_ans h]
   exact eq_of a1.isK a2.isK (by omega) he fun l b' e1 e2 z=>hs (by rw [e1,e2,z])
theorem rc_at (I:Inv X pins σ H s)(R:Rp X.K π H μ)(n:Nat){A:Around}{v v':V}{u u':Value}{x y:D}{b:Bool}(hu:A.units+n<cLine)(r:RelV v u)(r':RelV v' u')(hx:IsD X.K π μ.length H v x)(hy:IsD X.K π μ.length H v' y)(h:eqD n μ x y=some b) :
  RcAt A s u u' b/\RcNeAt A s u u' (!b):=by
 cases n with
 | zero=>cases h
 | succ n=>
  obtain ⟨k,h1,h⟩:=Zb.mp h
  obtain ⟨k',h2,h⟩:=Zb.mp h
  have a1:=kd_at I R hx r h1
  have a2:=kd_at I R hy r' h2
  have he:=items_eq I (A:=A) (eq_at I R n) hu a1 a2 h
  rw [eqKd_ans h]
  exact ⟨rc_of a1.isK a2.isK (by omega) he,rcNe_of a1.isK a2.isK (by omega) he⟩
end
end L3
namespace L3
open PySem L2
open SeqAt (EqAt RcAt RcNeAt)
section
variable {K:PySem.W.Frag}
noncomputable def intOp (g:Int->Int->Option Int):D->D->Hm->Option (D×Hm)
 | .int i,.int j,μ=>(g i j).map fun z=>(.int z,μ)
 | _,_,_=>none
theorem intOp_inv {g:Int->Int->Option Int}{x y d:D}{μ μ':Hm}(h:intOp g x y μ=some (d,μ')):∃ i j z,x=.int i/\y=.int j/\g i j=some z/\d=.int z/\μ'=μ:=by
 unfold intOp at h
 split at h
 ·rename_i i j
  obtain ⟨z,h1,h2⟩:=Zm.mp h
  cases h2
  exact ⟨i,j,z,rfl,rfl,h1,rfl,rfl⟩
 ·cases h
theorem intOp_ok {Cc:Int->Int->Prop}{g:Int->Int->Option Int}{g':Int->Int->Int}(hg:∀ i j z,g i j=some z->Cc i j/\z=g' i j):OpD K (intOp g) (rI Cc fun i j=>.int (g' i j)):=by
 intro π H μ x y d μ' vx vy Q R ix iy hm k
 obtain ⟨i,j,z,rfl,rfl,h1,rfl,rfl⟩:=intOp_inv hm
 cases ix
 cases iy
 obtain ⟨c,rfl⟩:=hg i j z h1
 exact ⟨i,j,rfl,rfl,c,k π _ H .refl R (.int _)⟩
theorem intOp_ok0 {g':Int->Int->Int}:OpD K (intOp fun i j=>some (g' i j)) (rI0 fun i j=>.int (g' i j)):=by
 intro π H μ x y d μ' vx vy Q R ix iy hm k
 obtain ⟨i,j,z,rfl,rfl,h1,rfl,rfl⟩:=intOp_inv hm
 cases ix
 cases iy
 cases h1
 exact ⟨i,j,rfl,rfl,k π _ H .refl R (.int _)⟩
noncomputable def subD:=intOp fun i j=>some (i - j)
noncomputable def mulI:=intOp fun i j=>if ((-(2 ^ 64)<i/\i<2 ^ 64)\/(-(2 ^ 64)<j/\j<2 ^ 64))\/(i.natAbs<2 ^ 4000/\j.natAbs<2 ^ 4000)\/Builtin.Int.intBits i+Builtin.Int.intBits j<=134217728 then some (i * j) else none
noncomputable def mulD:D->D->Hm->Option (D×Hm)
 | .loc a,.int k,μ=>match μ[a]? with
  | some (.lst xs)=>if -(2 ^ 63)<=k/\k<2 ^ 63/\xs.length * k.toNat<=sizeLine then some (.loc μ.length,μ++[.lst (List.replicate k.toNat xs).flatten]) else none
  | _=>none
 | x,y,μ=>mulI x y μ
noncomputable def fdivD:=intOp fun i j=>if 0<j/\j<2 ^ 4000 then some (i / j) else none
noncomputable def modD:=intOp fun i j=>if 0<j then some (i % j) else none
noncomputable def powD:=intOp fun i j=>if (0<=j/\j<=1000000/\i.natAbs<2 ^ 64)\/(0<=j/\j<=100/\i.natAbs<2 ^ 4000) then some (i ^ j.toNat) else none
noncomputable def CMulB (i j:Int):Prop:=CMul i j\/(i.natAbs<2 ^ 4000/\j.natAbs<2 ^ 4000)\/Builtin.Int.intBits i+Builtin.Int.intBits j<=134217728
noncomputable def CDivB (i j:Int):Prop:=0<j/\j<2 ^ 4000
noncomputable def CPowB (i j:Int):Prop:=CPow i j\/(0<=j/\j<=100/\i.natAbs<2 ^ 4000)
theorem bits_big {i:Int}(h:i.natAbs<2 ^ 4000):Builtin.Int.intBits i<=4000:=by
 unfold Builtin.Int.intBits
 split
 ·exact Nat.zero_le _
 ·rename_i hz
  have h0:i.natAbs≠0:=by
   intro z
   exact hz (by simpa using z)
  have:=(Nat.log2_lt h0).mpr h
  omega
theorem CMulB.ok {i j:Int}(h:CMulB i j):IntMulOk i j:=by
 rcases h with h|⟨h1,h2⟩|h
 ·exact h.ok
 rotate_left
 ·have hl:Builtin.Int.intTooBig (Builtin.Int.intBits i+Builtin.Int.intBits j)=false:=by
   unfold Builtin.Int.intTooBig
   rw [decide_eq_false]
   have:bitsLine=134217728:=by decide
   omega
  unfold IntMulOk
  rw [hl]
  simp
 ·have b1:=bits_big h1
  have b2:=bits_big h2
  have hl:Builtin.Int.intTooBig (Builtin.Int.intBits i+Builtin.Int.intBits j)=false:=by
   unfold Builtin.Int.intTooBig
   rw [decide_eq_false]
   have:(8000:Int)<=bitsLine:=by decide
   omega
  unfold IntMulOk
  rw [hl]
  simp
section
variable {X:Cx}
theorem op_mulB:OpR X (binaryOp .Mult) (rI CMulB fun i j=>.int (i * j)):=opI fun _ _ _ _ _ _ _ hc q=>PyProof.Rows.mul_int q hc.ok
theorem op_fdivB:OpR X (binaryOp .FloorDiv) (rI CDivB fun i j=>.int (i / j)):=opI fun i j _ _ _ _ _ hc q=>by
 have h1:(0:Int)<j:=hc.1
 have h2:j<2 ^ 4000:=hc.2
 have h0:j.natAbs≠0:=by omega
 have h3:j.natAbs<2 ^ 4000:=by
  have:((2 ^ 4000:Nat):Int)=2 ^ 4000:=by decide
  omega
 have h4:=(Nat.log2_lt h0).mpr h3
 exact PyProof.Rows.floordiv_int (by omega) (by rw [Int.fdiv_eq_ediv_of_nonneg i (by omega)];exact q) (.inl (PyProof.noPylong_of_log2 (by omega)))
theorem op_powB:OpR X (binaryOp .Pow) (rI CPowB fun i j=>.int (i ^ j.toNat)):=opI fun i j _ _ _ _ _ hc q=>by
 rcases hc with hc|⟨h1,h2,h3⟩
 ·exact PyProof.Rows.pow_int_small hc.1 hc.2.1 hc.2.2 q
 ·have b:=bits_big h3
  refine PyProof.Rows.pow_int h1 ?_ q
  have:(Builtin.Int.intBits i:Int) * j<=4000 * 100:=Int.mul_le_mul (by omega) h2 h1 (by omega)
  omega
end
theorem ifsome {c:Prop} [Decidable c] {a z:Int}(h:(if c then some a else none)=some z):c/\z=a:=by
 split at h
 ·cases h;exact ⟨by assumption,rfl⟩
 ·cases h
theorem subD_ok:OpD K subD (rI0 fun i j=>.int (i - j)):=intOp_ok0
theorem mulI_ok:OpD K mulI (rI CMulB fun i j=>.int (i * j)):=intOp_ok fun i j z h=>by
 have:=ifsome h
 exact this
theorem isDs_rep {π:Nat->Addr}{n:Nat}{H:Hp}{vs:List V}{ds:List D}(h:IsDs K π n H vs ds):∀ k:Nat,IsDs K π n H (List.replicate k vs).flatten (List.replicate k ds).flatten
 | 0=>.nil
 | k+1=>by
  rw [List.replicate_succ,List.replicate_succ,List.flatten_cons,List.flatten_cons]
  exact h.append (isDs_rep h k)
theorem mulD_ok:OpD K mulD (fun x y H Q=>rI CMulB (fun i j=>.int (i * j)) x y H Q\/rRep x y H Q):=by
 intro π H μ x y d μ' vx vy Q R ix iy hm k
 unfold mulD at hm
 split at hm
 ·rename_i a kk
  split at hm
  ·rename_i xs hx
   split at hm
   ·rename_i hb
    cases hm
    cases ix
    cases iy
    obtain ⟨ws,h1,h2⟩:=R.lst a xs hx
    refine .inr ⟨_,kk,ws,rfl,rfl,h1,hb.1,hb.2.1,by rw [h2.length];exact hb.2.2,fun p hp=>?_⟩
    obtain ⟨e2,R2,_⟩:=R.alloc (c:=.lst (List.replicate kk.toNat xs).flatten) (o:=.lst (List.replicate kk.toNat ws).flatten) hp (isDs_rep h2 _)
    exact k _ _ _ e2 R2 alloc_loc
   ·cases hm
  ·cases hm
 ·exact .inl (mulI_ok π H μ _ _ d μ' vx vy Q R ix iy hm k)
theorem fdivD_ok:OpD K fdivD (rI CDivB fun i j=>.int (i / j)):=intOp_ok fun i j z h=>by
 have:=ifsome h
 exact this
theorem modD_ok:OpD K modD (rI (fun _ j=>0<j) fun i j=>.int (i % j)):=intOp_ok fun _ _ _ h=>ifsome h
theorem powD_ok:OpD K powD (rI CPowB fun i j=>.int (i ^ j.toNat)):=intOp_ok fun i j z h=>by
 have:=ifsome h
 exact this
noncomputable def negD:D->Option D
 | .int i=>some (.int (-i))
 | _=>none
noncomputable def addD:D->D->Hm->Option (D×Hm)
 | .int i,.int j,μ=>some (.int (i+j),μ)
 | .str x,.str y,μ=>if x.length+y.length<=sizeLine then some (.str (x++y),μ) else none
 | .loc a,.loc b,μ=>match μ[a]?,μ[b]? with
  | some (.lst xs),some (.lst ys)=>if xs.length+ys.length<=sizeLine then some (.loc μ.length,μ++[.lst (xs++ys)]) else none
  | _,_=>none
 | .rol xs,.loc b,μ=>match μ[b]? with
  | some (.lst ys)=>if xs.length+ys.length<=sizeLine then some (.loc μ.length,μ++[.lst (xs++ys)]) else none
  | _=>none
 | _,_,_=>none
open PySem.AutoSeq1 in
theorem cat_ll (l:Addr)(items:Array Value)(n:Nat)(sl:Array (Option Value))(b:Addr)(items2:Array Value)(n2:Nat)(hc0:items.size+items2.size<=sizeLine) :
  Meets (Builtin.«list.__add__» ⟨[.ref l,.ref b],[]⟩) (fun _ R s=>s.heap.get? l=some { cls:=.type "list",dict:=none,data:=.seq items n,slots:=sl }/\s.heap.get? b=some { cls:=.type "list",dict:=none,data:=.seq items2 n2,slots:=#[] }/\R (.ok (.ret (Value.ref s.heap.objs.size))) { s with heap:=s.heap.push { cls:=Value.type "list",data:=Data.seq (items++items2) },toks:=s.toks }):=
 .of_wp fun prog w A R s h=>by obtain ⟨hp,g,d,tk,os⟩:=s;obtain ⟨hl,hb,h⟩:=h;have f1:=idx_int;have f2:=sub_tuple_tuple;have f3:=sub_list_list;have f4:=sub_tuple_list;have f5:=sub_list_tuple;wp_walk using wpAny_loadPart' hl,wpAny_loadPart' hb;exact ⟨_,rfl,h⟩
noncomputable def rCatR (K:PySem.W.Frag):R2:=fun x y H Q=>∃ l b xs zs,x=.ref l/\y=.ref b/\SqL K H l xs/\H b=some (.lst zs)/\xs.length+zs.length<=sizeLine/\∀ p,H p=none->Q (.ref p) (upd H p (.lst (xs++zs)))
theorem op_catR {X:Cx}:OpR X (binaryOp .Add) (rCatR X.K):=by
 intro pins s σ H x y v u Q I rx ry h
 obtain ⟨l,b,xs,zs,rfl,rfl,hH,hB,hz,q⟩:=h
 cases rx
 cases ry
 obtain ⟨its,r,⟨o,n,e,c1,c2,c3⟩,z⟩:=I.list hH
 obtain ⟨z2,its2,n2,r2,hl2,e2⟩:=I.lstM hB
 obtain ⟨c,dct,dat,sl⟩:=o
 dsimp only at c1 c2 c3
 subst c1 c2 c3
 refine concat_meets ⟨_,e,rfl⟩ ⟨_,e2,rfl⟩ noFill_list_add seq_list_add F.slot_list_add F.entry_list_add (F.args_list_add_2 _ _) (cat_ll l its.toArray n sl b its2.toArray n2 (by rw [List.size_toArray,List.size_toArray,<- r.length,<- hl2];exact hz)) ⟨e,e2,?_⟩
 have ea:its.toArray++its2.toArray=(its++its2).toArray:=by simp
 rw [ea]
 exact ⟨.ref _,_,I.lnew (t':=s.toks) (r.append r2) (by rw [List.length_append];omega),rfl,q _ I.fresh⟩
noncomputable def rAddD (K:PySem.W.Frag):R2:=fun x y H Q=>rI0 (fun i j=>.int (i+j)) x y H Q\/(∃ i j,x=.str i/\y=.str j/\i.length+j.length<=sizeLine/\Q (.str (i++j)) H)\/rCatR K x y H Q
theorem op_addD {X:Cx}:OpR X (binaryOp .Add) (rAddD X.K):=op_add.or (op_add_str.or op_catR)
theorem addD_ok:OpD K addD (rAddD K):=by
 intro π H μ x y d μ' vx vy Q R ix iy hm k
 unfold addD at hm
 split at hm
 ·cases hm
  cases ix
  cases iy
  exact .inl ⟨_,_,rfl,rfl,k π _ H .refl R (.int _)⟩
 ·split at hm
  ·rename_i hl
   cases hm
   cases ix
   cases iy
   exact .inr (.inl ⟨_,_,rfl,rfl,hl,k π _ H .refl R (.str _)⟩)
  ·cases hm
 ·split at hm
  ·rename_i xs ys ha hb
   split at hm
   ·rename_i hl
    cases hm
    cases ix
    cases iy
    obtain ⟨vs,h1,h2⟩:=R.lst _ xs ha
    obtain ⟨ws,h3,h4⟩:=R.lst _ ys hb
    refine .inr (.inr ⟨_,_,vs,ws,rfl,rfl,by first|exact h1|exact .inl (.inl h1),h3,by rw [h2.length,h4.length];exact hl,fun p hp=>?_⟩)
    obtain ⟨e2,R2,q⟩:=R.alloc (c:=.lst (xs++ys)) (o:=.lst (vs++ws)) hp (h2.append h4)
    exact k _ _ _ e2 R2 alloc_loc
   ·cases hm
  ·cases hm
 ·split at hm
  ·rename_i ys hb
   split at hm
   ·rename_i hl
    cases hm
    cases ix with
    | rol h1 h2=>
     cases iy
     obtain ⟨ws,h3,h4⟩:=R.lst _ ys hb
     refine .inr (.inr ⟨_,_,_,ws,rfl,rfl,h1.sq,h3,by rw [h2.length,h4.length];exact hl,fun p hp=>?_⟩)
     obtain ⟨e2,R2,q⟩:=R.alloc (c:=.lst (_++ys)) (o:=.lst (_++ws)) hp (h2.append h4)
     exact k _ _ _ e2 R2 alloc_loc
   ·cases hm
  ·cases hm
 ·cases hm
noncomputable def intCmp (p:Int->Int->Bool):D->D->Hm->Option (D×Hm)
 | .int i,.int j,μ=>some (.bl (p i j),μ)
 | _,_,_=>none
theorem intCmp_ok {p:Int->Int->Bool}:OpD K (intCmp p) (rI0 fun i j=>.bl (p i j)):=by
 intro π H μ x y d μ' vx vy Q R ix iy hm k
 unfold intCmp at hm
 split at hm
 ·cases hm
  cases ix
  cases iy
  exact ⟨_,_,rfl,rfl,k π _ H .refl R (.bl _)⟩
 ·cases hm
noncomputable def ltD:=intCmp fun i j=>decide (i<j)
noncomputable def leD:=intCmp fun i j=>decide (i<=j)
noncomputable def gtD:=intCmp fun i j=>decide (j<i)
noncomputable def geD:=intCmp fun i j=>decide (j<=i)
noncomputable def rEqD (K:PySem.W.Frag)(ne:Bool):R2:=fun x y H Q=>∃ π μ dx dy b,Rp K π H μ/\IsD K π μ.length H x dx/\IsD K π μ.length H y dy/\eqD 8 μ dx dy=some b/\Q (.bl (if ne then !b else b)) H
theorem op_eqD {X:Cx}(hu:X.A.units+8<cLine):OpR X (compareOp .Eq) (rEqD X.K false):=by
 intro pins s σ H x y v u Q I rx ry h
 obtain ⟨π,μ,dx,dy,b,R,ix,iy,e,q⟩:=h
 exact (rc_at I R 8 hu rx ry ix iy e).1 _ _ _ _ ⟨.bl b,H,I,rfl,q⟩
theorem op_neD {X:Cx}(hu:X.A.units+8<cLine):OpR X (compareOp .NotEq) (rEqD X.K true):=by
 intro pins s σ H x y v u Q I rx ry h
 obtain ⟨π,μ,dx,dy,b,R,ix,iy,e,q⟩:=h
 exact (rc_at I R 8 hu rx ry ix iy e).2 _ _ _ _ ⟨.bl (!b),H,I,rfl,q⟩
noncomputable def eqM (ne:Bool):D->D->Hm->Option (D×Hm):=fun x y μ=>(eqD 8 μ x y).map fun b=>(.bl (if ne then !b else b),μ)
theorem eqM_ok {ne:Bool}:OpD K (eqM ne) (rEqD K ne):=by
 intro π H μ x y d μ' vx vy Q R ix iy hm k
 obtain ⟨b,h1,h2⟩:=Zm.mp hm
 cases h2
 exact ⟨π,μ,x,y,b,R,ix,iy,h1,k π _ H .refl R (.bl _)⟩
noncomputable def inStr:D->D->Hm->Option (D×Hm)
 | .str i,.str j,μ=>some (.bl (!(Builtin.Str.occurrences j i 0 j.length 1).isEmpty),μ)
 | _,_,_=>none
theorem inStr_ok:OpD K inStr (fun x y H Q=>∃ i j,x=.str i/\y=.str j/\Q (.bl (!(Builtin.Str.occurrences j i 0 j.length 1).isEmpty)) H):=by
 intro π H μ x y d μ' vx vy Q R ix iy hm k
 unfold inStr at hm
 split at hm
 ·cases hm
  cases ix
  cases iy
  exact ⟨_,_,rfl,rfl,k π _ H .refl R (.bl _)⟩
 ·cases hm
end
section
variable {X:Cx}{a b c:Expr}{ma mb mc:ME}{pos:Pos}
theorem hu8 {k:Nat}{A:Around}(r:Room k A):A.units+8<cLine:=by have:=r.un;omega
theorem pm_neg (ha:PE X a (tM X.K ma)):PE X (.UnaryOp .USub a pos) (tM X.K (fun ρ μ=>(ma ρ μ).bind fun p=>(negD p.1).map fun d=>(d,p.2))):=pm_weak (pe_un un_neg ha) (by
 rintro σ H Q ⟨π,ρ,μ,d,μ',R,E,hm,k⟩
 obtain ⟨⟨x,μ1⟩,h1,hm⟩:=Zb.mp hm
 obtain ⟨y,h2,h3⟩:=Zm.mp hm
 cases h3
 cases x with
 | int i=>
  cases h2
  refine ⟨π,ρ,μ,_,_,R,E,h1,fun π1 v1 H1 e1 R1 i1=>?_⟩
  cases i1
  exact ⟨_,rfl,k π1 _ H1 e1 R1 (.int _)⟩
 | _=>cases h2)
theorem pm_ty {x:Str}{n:String}(hg:Gl X x)(hm:X.mg x=none)(hv:bootBuiltins x=some (.type n))(hn:x ≠ "__name__":=by decide) (hd:(x == ("__debug__":Str))=false:=by decide):PE X (.Name x pos) (tM X.K (mC (.ty n))):=
 pm_const (pe_bltn (v:=.ty n) hg hm hv rfl hn hd) fun _ _ _=>.ty n
end
noncomputable def tyD (μ:Hm):D->Option String
 | .non=>some "NoneType"
 | .bl _=>some "bool"
 | .int _=>some "int"
 | .str _=>some "str"
 | .tup _=>some "tuple"
 | .rol _=>some "list"
 | .loc a=>match μ[a]? with|some (.lst _)=>some "list" | some (.dK _)=>some "dict" | _=>none
 | .ty _=>none
noncomputable def instT (t c:String):Option Bool:=match c with
 | "int"=>some (t == "int" || t == "bool")
 | "bool"=>some (t == "bool")
 | "str"=>some (t == "str")
 | "list"=>some (t == "list")
 | "tuple"=>some (t == "tuple")
 | "dict"=>some (t == "dict")
 | _=>none
noncomputable def isInst:MF:=fun ds μ=>match ds with
 | [x,.ty c]=>(tyD μ x).bind fun t=>(instT t c).map fun b=>(.bl b,μ)
 | _=>none
theorem kit_inst (K:PySem.W.Frag){t c:String}{b:Bool}(ht:t = "NoneType"\/t = "bool"\/t = "int"\/t = "str"\/t = "tuple"\/t = "list"\/t = "dict") (h:instT t c=some b):PySem.W.kitOne K (.type t) (.type c)=some b:=by
 unfold instT at h
 split at h<;>first
  | cases h;done
  | (have h':=Option.some.inj h;subst h'
     rcases ht with rfl|rfl|rfl|rfl|rfl|rfl|rfl<;>first|rfl|decide +kernel|(unfold PySem.W.kitOne;simp;rfl))
end L3
namespace L3
open PySem L2
noncomputable abbrev MG:=D->Rho->Hm->Option Rho
noncomputable def tMG (K:PySem.W.Frag)(g:MG):TG:=fun v σ H Q=>∃ π ρ μ d ρ',Rp K π H μ/\En K π μ.length H σ ρ/\IsD K π μ.length H v d/\g d ρ μ=some ρ'/\∀ σ',En K π μ.length H σ' ρ'->Q σ' H
noncomputable def gSet (i:Nat):MG:=fun d ρ _=>some (ρ.set i (some d))
section
variable {X:Cx}{pos:Pos}
theorem pmg_name {i:Nat}{x:Str}(hN:X.N.Nodup)(hi:X.N[i]? = some x)(hx:Loc X.env.scope x)(hf:X.fn x=true\/X.env.scope.names.lookup x=some .local:=by first|exact .inl rfl|exact .inr rfl|assumption):PG X (.Name x pos) (tMG X.K (gSet i)):=by
 intro pins s σ H v u Q I r h
 obtain ⟨π,ρ,μ,d,ρ',R,E,hd,hm,k⟩:=h
 cases hm
 exact pg_name hN hi hx hf pins s σ H v u Q I r (k _ (E.set hd i))
noncomputable def iSeq (K:PySem.W.Frag)(tl:TE):TI:=fun σ H R=>tl σ H fun x H1=>∃ a,x=.ref a/\(((∃ xs,SqL K H1 a xs)/\R (Itl K a) H1)\/((∃ xs,SqT K H1 a xs)/\R (Itt K a) H1))
theorem pi_seq {l tg:Expr}{tl:TE}(hl:PE X l tl):PI X tg l (iSeq X.K tl):=by
 intro pins s σ H R I h
 refine thn (hl pins s σ H _ I h) fun v s1 ⟨x,H1,I1,r1,q1⟩=>?_
 obtain ⟨a,e,q⟩:=q1
 subst e
 cases r1
 rcases q with ⟨⟨xs,hq⟩,q⟩|⟨⟨xs,hq⟩,q⟩
 ·obtain ⟨its,rv,p,hz⟩:=I1.list hq
  refine wpAny_pyIter_list p.isList ?_
  refine ⟨s1.heap.objs.size,[s1.heap.objs.size],_,_,H1,rfl,I1.kept (t':=s1.toks) fun b o e=>Heap.get?_push_of_some _ e,turn_list a _,⟨_,Heap.get?_push_size _ rfl,rfl,rfl⟩,fun b hb=>?_,q⟩
  have e:b=s1.heap.objs.size:=by simpa using hb
  subst e
  exact I1.fpOk (Nat.le_refl _) (I1.hok.fresh (Nat.le_refl _))
 ·obtain ⟨its,rv,p,hz⟩:=I1.tuple hq
  refine wpAny_pyIter_tuple (show s1.heap.IsTuple a its.toArray from p) ?_
  refine ⟨s1.heap.objs.size,[s1.heap.objs.size],_,_,H1,rfl,I1.kept (t':=s1.toks) fun b o e=>Heap.get?_push_of_some _ e,turn_tuple a _,⟨_,Heap.get?_push_size _ rfl,rfl,rfl⟩,fun b hb=>?_,q⟩
  have e:b=s1.heap.objs.size:=by simpa using hb
  subst e
  exact I1.fpOk (Nat.le_refl _) (I1.hok.fresh (Nat.le_refl _))
end
structure Wk (K:PySem.W.Frag)(J:It)(src:Hm->Nat->Option (Option D))(π:Nat->Addr)(n:Nat)(H:Hp):Prop where
 stop:∀ π' μ H' i,Ext π n H π' μ.length H'->Rp K π' H' μ->src μ i=some none->J.stop i H'
 go:∀ π' μ H' i d,Ext π n H π' μ.length H'->Rp K π' H' μ->src μ i=some (some d)->J.go i H'/\∀ x H2,J.yld i H' x H2->Ext π' μ.length H' π' μ.length H2/\Rp K π' H2 μ/\IsD K π' μ.length H2 x d
noncomputable def srcSeq (x:D):Hm->Nat->Option (Option D):=fun μ i=>(seqD μ x).map fun xs=>xs[i]?
theorem wk_seq {K:PySem.W.Frag}{π:Nat->Addr}{μ:Hm}{H:Hp}{v:V}{x:D}{xs:List D}(R:Rp K π H μ)(h:IsD K π μ.length H v x)(hs:seqD μ x=some xs) :
  ∃ a,v=.ref a/\(((∃ vs,SqL K H a vs)/\Wk K (Itl K a) (srcSeq x) π μ.length H)\/((∃ vs,SqT K H a vs)/\Wk K (Itt K a) (srcSeq x) π μ.length H)):=by
 cases h with
 | @tup p vs ds q t=>
  refine ⟨p,rfl,.inr ⟨⟨vs,q⟩,⟨fun π' μ' H' i e R' z=>?_,fun π' μ' H' i d e R' z=>?_⟩⟩⟩
  ·simp only [srcSeq,seqD,Option.map_some] at z
   have z':ds[i]? = none:=Option.some.inj z
   exact ⟨vs,e.sqT q,by rw [t.length];exact Zn.mp z'⟩
  ·simp only [srcSeq,seqD,Option.map_some] at z
   have z':ds[i]? = some d:=Option.some.inj z
   obtain ⟨w,h1,h2⟩:=t.get z'
   refine ⟨⟨vs,w,e.sqT q,h1⟩,fun y H2 ⟨e1,e2⟩=>?_⟩
   subst e1
   have:=e2 vs (e.sqT q)
   rw [h1] at this
   cases this
   exact ⟨.refl,R',h2.mono e⟩
 | @rol p vs ds q t=>
  refine ⟨p,rfl,.inl ⟨⟨vs,q.sq⟩,⟨fun π' μ' H' i e R' z=>?_,fun π' μ' H' i d e R' z=>?_⟩⟩⟩
  ·simp only [srcSeq,seqD,Option.map_some] at z
   have z':ds[i]? = none:=Option.some.inj z
   exact ⟨vs,(e.roL q).sq,by rw [t.length];exact Zn.mp z'⟩
  ·simp only [srcSeq,seqD,Option.map_some] at z
   have z':ds[i]? = some d:=Option.some.inj z
   obtain ⟨w,h1,h2⟩:=t.get z'
   refine ⟨⟨vs,w,(e.roL q).sq,h1⟩,fun y H2 ⟨e1,e2⟩=>?_⟩
   subst e1
   have:=e2 vs (e.roL q).sq
   rw [h1] at this
   cases this
   exact ⟨.refl,R',h2.mono e⟩
 | @loc a ha=>
  have hc:∃ vs,H (π a)=some (.lst vs):=by
   simp only [seqD] at hs
   split at hs
   ·rename_i ys hy
    obtain ⟨vs,h1,_⟩:=R.lst a ys hy
    exact ⟨vs,h1⟩
   ·cases hs
  obtain ⟨vs0,hv0⟩:=hc
  refine ⟨π a,rfl,.inl ⟨⟨vs0,.of hv0⟩,⟨fun π' μ' H' i e R' z=>?_,fun π' μ' H' i d e R' z=>?_⟩⟩⟩
  ·simp only [srcSeq,seqD] at z
   split at z
   ·rename_i ys hy
    obtain ⟨vs,h1,h2⟩:=R'.lst a ys hy
    rw [e.pi a ha] at h1
    have z':ys[i]? = none:=Option.some.inj z
    exact ⟨vs,.of h1,by rw [h2.length];exact Zn.mp z'⟩
   ·cases z
  ·simp only [srcSeq,seqD] at z
   split at z
   ·rename_i ys hy
    obtain ⟨vs,h1,h2⟩:=R'.lst a ys hy
    rw [e.pi a ha] at h1
    have z':ys[i]? = some d:=Option.some.inj z
    obtain ⟨w,h3,h4⟩:=h2.get z'
    refine ⟨⟨vs,w,.of h1,h3⟩,fun y H2 ⟨e1,e2⟩=>?_⟩
    subst e1
    have:=e2 vs (.of h1)
    rw [h3] at this
    cases this
    exact ⟨.refl,R',h4⟩
   ·cases z
 | _=>cases hs
noncomputable def goFor (src:Hm->Nat->Option (Option D))(g:MG)(b:MS):Nat->Nat->MS
 | 0,_,_,_=>none
 | n+1,i,ρ,μ=>(src μ i).bind fun o=>match o with
  | none=>some (.nx,ρ,μ)
  | some d=>(g d ρ μ).bind fun ρ1=>(b ρ1 μ).bind fun p=>match p.1 with
   | .nx=>goFor src g b n (i+1) p.2.1 p.2.2
   | .ct=>goFor src g b n (i+1) p.2.1 p.2.2
   | .bk=>some (.nx,p.2.1,p.2.2)
   | .rt d=>some (.rt d,p.2.1,p.2.2)
theorem go_read {K:PySem.W.Frag}{J:It}{src:Hm->Nat->Option (Option D)}{g:MG}{b:MS}{π:Nat->Addr}{n0:Nat}{H0:Hp}(W:Wk K J src π n0 H0){E:Ends}{fl:Fl}{ρ':Rho}{μ':Hm}(hE:FlOk K E π n0 H0 fl ρ' μ')
  {π1:Nat->Addr}{μ1:Hm}{H1:Hp}{ρ1:Rho}{σ1:St}{n:Nat}(e1:Ext π n0 H0 π1 μ1.length H1)(R1:Rp K π1 H1 μ1)(E1:En K π1 μ1.length H1 σ1 ρ1)(h:goFor src g b n 0 ρ1 μ1=some (fl,ρ',μ')) :
  ∃ Wd:Nat->Nat->St->Hp->Prop,(∃ m,Wd 0 m σ1 H1)/\∀ i m σ H,Wd i m σ H->
   (J.stop i H/\E.nx σ H)\/(J.go i H/\∃ N:St->Hp->Prop,(∀ σ' H',N σ' H'->∃ m',m'<m/\Wd (i+1) m' σ' H')/\∀ x H',J.yld i H x H'->tMG K g x σ H' fun σ2 H2=>tMS K b { E with nx:=N,ct:=N,bk:=E.nx } σ2 H2):=by
 have lift:∀ {π2:Nat->Addr}{n2:Nat}{H2:Hp}(e:Ext π n0 H0 π2 n2 H2){fl:Fl}{ρ':Rho}{μ':Hm},FlOk K E π n0 H0 fl ρ' μ'->FlOk K E π2 n2 H2 fl ρ' μ':=fun {π2 n2 H2} e {fl ρ' μ'} k=>by
  cases fl with
  | nx=>exact fun π3 σ3 H3 e3 R3 E3=>k π3 σ3 H3 (e.trans e3) R3 E3
  | bk=>exact fun π3 σ3 H3 e3 R3 E3=>k π3 σ3 H3 (e.trans e3) R3 E3
  | ct=>exact fun π3 σ3 H3 e3 R3 E3=>k π3 σ3 H3 (e.trans e3) R3 E3
  | rt d=>exact KC.after k e
 refine ⟨fun i m σ H=>∃ π2 μ2 ρ2,Ext π n0 H0 π2 μ2.length H/\Rp K π2 H μ2/\En K π2 μ2.length H σ ρ2/\goFor src g b m i ρ2 μ2=some (fl,ρ',μ'),⟨n,π1,μ1,ρ1,e1,R1,E1,h⟩,?_⟩
 rintro i m σ H ⟨π2,μ2,ρ2,e2,R2,E2,h2⟩
 cases m with
 | zero=>cases h2
 | succ m=>
  obtain ⟨o,h3,h4⟩:=Zb.mp h2
  cases o with
  | none=>
   cases h4
   exact .inl ⟨W.stop π2 _ H i e2 R2 h3,hE π2 σ H e2 R2 E2⟩
  | some d=>
   obtain ⟨g1,g2⟩:=W.go π2 μ2 H i d e2 R2 h3
   obtain ⟨ρ3,h5,h6⟩:=Zb.mp h4
   obtain ⟨⟨f4,ρ4,μ4⟩,h7,h8⟩:=Zb.mp h6
   refine .inr ⟨g1,fun σ' H'=>∃ π5 ρ5 μ5,Ext π n0 H0 π5 μ5.length H'/\Rp K π5 H' μ5/\En K π5 μ5.length H' σ' ρ5/\goFor src g b m (i+1) ρ5 μ5=some (fl,ρ',μ'),
    fun σ' H' ⟨π5,ρ5,μ5,a1,a2,a3,a4⟩=>⟨m,Nat.lt_succ_self _,π5,μ5,ρ5,a1,a2,a3,a4⟩,fun x H' y=>?_⟩
   obtain ⟨ex,Rx,hx⟩:=g2 x H' y
   have e2:=e2.trans ex
   refine ⟨π2,ρ2,μ2,d,ρ3,Rx,E2.mono ex,hx,h5,fun σ3 E3=>⟨π2,ρ3,μ2,f4,ρ4,μ4,Rx,E3,h7,?_⟩⟩
   cases f4 with
   | nx=>exact fun π5 σ5 H5 e5 R5 E5=>⟨π5,ρ4,μ4,e2.trans e5,R5,E5,h8⟩
   | ct=>exact fun π5 σ5 H5 e5 R5 E5=>⟨π5,ρ4,μ4,e2.trans e5,R5,E5,h8⟩
   | bk=>
    cases h8
    exact fun π5 σ5 H5 e5 R5 E5=>hE π5 σ5 H5 (e2.trans e5) R5 E5
   | rt d'=>
    cases h8
    exact KC.after hE e2
section
variable {X:Cx}{pos:Pos}{tg iter:Expr}{body:List Stmt}{mi:ME}{g:MG}{mb:MS}
noncomputable def srcRng (lo:Int)(n:Nat):Hm->Nat->Option (Option D):=fun _ i=>some (if i<n then some (.int (lo+i)) else none)
theorem wk_rng {K:PySem.W.Frag}{lo:Int}{k:Nat}{π:Nat->Addr}{n:Nat}{H:Hp}:Wk K (Itr lo k) (srcRng lo k) π n H:=by
 refine ⟨fun π' μ H' i e R z=>?_,fun π' μ H' i d e R z=>?_⟩
 ·have z':=Option.some.inj z
  split at z'
  ·cases z'
  ·exact Nat.not_lt.mp (by assumption)
 ·have z':=Option.some.inj z
  split at z'
  ·cases z'
   rename_i h
   exact ⟨h,fun x H2 ⟨e1,e2⟩=>by subst e1;rw [e2];exact ⟨.refl,R,.int _⟩⟩
  ·cases z'
end
end L3
namespace L3
open PySem L2
noncomputable def hidName (y:Str):Str:="#"++y
noncomputable def hid (xs N:List Str):List Str:=N.map fun y=>if xs.contains y then hidName y else y
theorem hid_len (xs N:List Str):(hid xs N).length=N.length:=by unfold hid;simp
theorem hid_get {xs N:List Str}{i:Nat}{y:Str}(h:(hid xs N)[i]? = some y):∃ y0,N[i]? = some y0/\((xs.contains y0=true/\y=hidName y0)\/(xs.contains y0=false/\y=y0)):=by
 unfold hid at h
 rw [List.getElem?_map] at h
 obtain ⟨y0,h1,h2⟩:=Zm.mp h
 refine ⟨y0,h1,?_⟩
 cases hc:xs.contains y0 with
 | true=>rw [hc] at h2;exact .inl ⟨rfl,by simpa using h2.symm⟩
 | false=>rw [hc] at h2;exact .inr ⟨rfl,by simpa using h2.symm⟩
noncomputable def compCx (X:Cx)(scope:Scope)(cl:List (Str×Addr))(C:Addr)(N:List Str)(s₀:Shared)(H₀:Hp)(fp:List Addr):Cx:=
 { X with N:=N,s₀:=s₀,H₀:=H₀,env:=compEnvC scope cl C X.env,outer:=X.stack,stack:=X.stack,ex:=fp,fn:=fun _=>false,pn:=[],xe:=fun _ _=>False }
theorem lookup_relabel {env:Env}:∀ (names:List (Str×NameKind))(x:Str),(names.map fun (n,k)=>if (k == NameKind.free&&env.scope.kind == .function&&env.kindOf n == some .cell) then (n,NameKind.cell) else (n,k)).lookup x
  = (names.lookup x).map fun k=>if (k == NameKind.free&&env.scope.kind == .function&&env.kindOf x == some .cell) then NameKind.cell else k
 | [],_=>rfl
 | (n,k)::r,x=>by
  have ih:=lookup_relabel (env:=env) r x
  rw [List.map_cons]
  by_cases hx:x=n
  ·subst hx
   have key:∀ (k':NameKind)(l:List (Str×NameKind)),List.lookup x ((x,k')::l)=some k':=fun k' l=>by simp [List.lookup_cons]
   rw [key]
   show List.lookup x ((if (k == NameKind.free&&env.scope.kind == .function&&env.kindOf x == some .cell)=true then (x,NameKind.cell) else (x,k))::_)=some (if (k == NameKind.free&&env.scope.kind == .function&&env.kindOf x == some .cell)=true then NameKind.cell else k)
   split
   ·rw [key]
   ·rw [key]
  ·have hx':(x == n)=false:=by simpa using hx
   have key:∀ (k':NameKind)(l:List (Str×NameKind)),List.lookup x ((n,k')::l)=List.lookup x l:=fun k' l=>by simp only [List.lookup_cons,hx']
   rw [key]
   show List.lookup x ((if (k == NameKind.free&&env.scope.kind == .function&&env.kindOf n == some .cell)=true then (n,NameKind.cell) else (n,k))::_)=_
   split
   ·rw [key]
    exact ih
   ·rw [key]
    exact ih
structure CompOk (X:Cx)(scope:Scope)(cl:List (Str×Addr))(xs:List Str):Prop where
 clos:closureFor scope X.env=pure cl
 nocell:∀ y∈scope.names,y.2≠.cell
 kind:scope.kind=.function
 names:∀ y∈scope.names,y.2=.local->scope.names.lookup y.1=some .local
 here:∀ x∈xs,scope.names.lookup x=some .local
 sub:∀ y c,cl.lookup y=some c->X.env.cells.lookup y=some c
 free:∀ y,scope.names.lookup y=some .free->(X.env.kindOf y=some .cell\/X.env.kindOf y=some .free)/\∃ c,cl.lookup y=some c
 own:∀ y,scope.names.lookup y=some .local->y∉hid xs X.N
 hidn:∀ y∈X.N,xs.contains y=true->scope.names.lookup (hidName y)=none
section
variable {X:Cx}{scope:Scope}{cl:List (Str×Addr)}{xs:List Str}
theorem CompOk.kindOf (O:CompOk X scope cl xs)(C:Addr)(y:Str):(compEnvC scope cl C X.env).kindOf y=(scope.names.lookup y).map fun k=>if (k == NameKind.free&&X.env.scope.kind == .function&&X.env.kindOf y == some .cell) then NameKind.cell else k:=
 lookup_relabel scope.names y
theorem CompOk.outer (O:CompOk X scope cl xs){C:Addr}{y:Str}(h:(compEnvC scope cl C X.env).kindOf y=some .cell\/(compEnvC scope cl C X.env).kindOf y=some .free):scope.names.lookup y=some .free:=by
 rw [O.kindOf] at h
 cases q:scope.names.lookup y with
 | none=>rw [q] at h;rcases h with h|h<;>cases h
 | some k=>
  rw [q] at h
  cases k with
  | free=>rfl
  | cell=>exact absurd rfl (O.nocell _ (PySem.mem_of_lookup q))
  | «local»=>rcases h with h|h<;>simp at h
  | globalExplicit=>rcases h with h|h<;>simp at h
  | globalImplicit=>rcases h with h|h<;>simp at h
theorem CompOk.inv {pins:List (Addr×Obj)}{σ:St}{H:Hp}{s:Shared}{fp:List Addr}{h₁:Heap}{tk:Nat}(O:CompOk X scope cl xs)(I:Inv X pins σ H s)(hfp:∀ b∈fp,FpOk X pins H b)(hob:∀ b∈fp,∃ o,s.heap.get? b=some o){m:Str->Option Value}
  (hns:h₁.Ns s.heap.objs.size m)(hk:∀ b o,s.heap.get? b=some o->h₁.get? b=some o) :
  Inv (compCx X scope cl s.heap.objs.size (hid xs X.N++xs) s H fp) [] (σ++List.replicate xs.length none) H { s with heap:=h₁,toks:=tk }:=by
 refine ⟨⟨I.ok.mod,O.kind,I.ok.glob,I.ok.blt,Nat.le_refl _,fun y z c h1 h2=>?_,fun y hy=>?_,(fun y c h=>by cases h),I.ok.hd,I.ok.frames,.inl rfl,fun b hb=>?_,fun b o e=>I.bs b o e,Nat.le_trans I.ok.bsz I.sz,fun b o e hb=>?_,fun b hb hb2=>?_,I.stack,I.stkFree⟩,
  rfl,I.bare,Un.kept hk,⟨m,hns,fun i y v h1 h2 h3=>?_⟩,fun y c h=>?_,I.hok.fresh (Nat.le_refl _),fun y c h=>I.freeC y c (O.sub y c h),fun p hp=>absurd (show p∈([]:List (Addr×Obj)) from hp) (by simp),I.hok.kept hk,?_⟩
 ·exact I.ok.inj y z c (O.sub y c h1) (O.sub z c h2)
 ·exact (O.free y (O.outer hy)).2
 ·obtain ⟨f0,f1,f2,f3,f4,f5⟩:=hfp b hb
  obtain ⟨o,ho⟩:=hob b hb
  exact ⟨Nat.ne_of_lt (Heap.lt_size ho),fun y c h=>f4 y c (O.sub y c h)⟩
 ·obtain ⟨f0,f1,f2,f3,f4,f5⟩:=hfp b hb
  rcases f3 with f3|f3
  ·exact I.ok.noex b o e f3
  ·exact absurd (Nat.lt_of_lt_of_le (Heap.lt_size (I.ok.bs b o e).1) f3) (Nat.lt_irrefl _)
 ·obtain ⟨f0,f1,f2,f3,f4,f5⟩:=hfp b hb
  rcases List.mem_cons.mp (I.stkSub b hb2) with z|z
  ·exact f1 z
  ·exact f2 z
 ·have hi:i<σ.length:=by
   by_cases hi:i<σ.length
   ·exact hi
   ·rw [List.getElem?_append_right (Nat.not_lt.mp hi),List.getElem?_replicate] at h2
    split at h2<;>cases h2
  rw [List.getElem?_append_left hi] at h2
  have h0':(hid xs X.N)[i]? = some y:=by
   have h1'':(hid xs X.N++xs)[i]? = some y:=h1
   rw [List.getElem?_append_left (by rw [hid_len,<- I.len];exact hi)] at h1''
   exact h1''
  have notown:scope.names.lookup y≠some .local:=fun z=>O.own y z (List.mem_of_getElem? h0')
  have hk':=O.kindOf s.heap.objs.size y
  have h1':X.N[i]? = some y:=by
   obtain ⟨y0,q1,q2⟩:=hid_get h0'
   rcases q2 with ⟨q2,q3⟩|⟨q2,q3⟩
   ·exfalso
    have hz:=O.hidn y0 (List.mem_of_getElem? q1) q2
    rw [<- q3] at hz
    rw [hz] at hk'
    have h3':(compEnvC scope cl s.heap.objs.size X.env).kindOf y=some .local\/(compEnvC scope cl s.heap.objs.size X.env).kindOf y=some .cell\/(compEnvC scope cl s.heap.objs.size X.env).kindOf y=some .free:=h3
    rw [hk'] at h3'
    rcases h3' with h3'|h3'|h3'<;>cases h3'
   ·rw [q3];exact q1
  have h3':(compEnvC scope cl s.heap.objs.size X.env).kindOf y=some .cell\/(compEnvC scope cl s.heap.objs.size X.env).kindOf y=some .free:=by
   rcases h3 with h3|h3|h3
   ·exfalso
    have h3':(compEnvC scope cl s.heap.objs.size X.env).kindOf y=some .local:=h3
    rw [hk'] at h3'
    cases q:scope.names.lookup y with
    | none=>rw [q] at h3';cases h3'
    | some k=>
     rw [q] at h3'
     cases k with
     | «local»=>exact notown q
     | cell=>simp at h3'
     | free=>
      simp only [Option.map_some] at h3'
      split at h3'<;>cases h3'
     | globalExplicit=>simp at h3'
     | globalImplicit=>simp at h3'
   ·exact .inl h3
   ·exact .inr h3
  obtain ⟨hf,c,hc⟩:=O.free y (O.outer h3')
  obtain ⟨m0,hn0,hl0⟩:=I.loc
  obtain ⟨u,r,l⟩:=hl0 i y v h1' h2 (by rcases hf with hf|hf;exact .inr (.inl hf);exact .inr (.inr hf))
  refine ⟨u,r,.inr ⟨h3',c,hc,?_⟩⟩
  rcases l with ⟨lk,_⟩|⟨_,c',e',z⟩
  ·exfalso
   rcases hf with hf|hf
   ·rw [hf] at lk;cases lk
   ·rw [hf] at lk;cases lk
  ·rw [O.sub y c hc] at e'
   cases e'
   obtain ⟨o,ho,hd⟩:=z
   exact ⟨o,hk c o ho,hd⟩
 ·obtain ⟨v,q⟩:=I.cell y c (O.sub y c h)
  exact ⟨v,by obtain ⟨o,ho,hd⟩:=q;exact ⟨o,hk c o ho,hd⟩⟩
 ·show (σ++List.replicate xs.length none).length=(hid xs X.N++xs).length
  rw [List.length_append,List.length_append,I.len,List.length_replicate,hid_len]
theorem CompOk.back {pins pl:List (Addr×Obj)}{σ σ':St}{H H':Hp}{s s1:Shared}{fp:List Addr}{h':Heap}{N:List Str}(I:Inv X pins σ H s)(hfp:∀ b∈fp,FpOk X pins H b)
  (J:Inv (compCx X scope cl s.heap.objs.size N s H fp) pl σ' H' s1)(hs:∀ b o,b≠s.heap.objs.size->s1.heap.get? b=some o->h'.get? b=some o):Inv X pins σ H' { s1 with heap:=h' }:=by
 have u:Un (frs X.stack) fp H H' s.heap h':=by
  have u0:Un (frs X.stack) fp H H' s.heap s1.heap:=J.base
  have ne:∀ b o,s.heap.get? b=some o->b≠s.heap.objs.size:=fun b o e=>Nat.ne_of_lt (Heap.lt_size e)
  refine ⟨fun b o e n hb hx=>hs b o (ne b o e) (u0.keep b o e n hb hx),fun b o e n hb hx=>?_,u0.free,fun b o e hx=>?_,u0.tups,u0.frzs,u0.tbls⟩
  ·obtain ⟨sl,q⟩:=u0.slot b o e n hb hx
   exact ⟨sl,hs b _ (ne b o e) q⟩
  ·obtain ⟨o',q⟩:=u0.there b o e hx
   exact ⟨o',hs b _ (ne b o e) q⟩
 have hfree:H' s.heap.objs.size=none:=J.free
 have hok:HOk X.prog X.w H' h':=fun b v e=>by
  refine (J.hok b v e).stay (fun c w hc q=>hs c w ?_ q) (fun _ q=>q) fun _ _ q=>q
  rcases hc with z|z
  ·rw [z]
   intro z2
   rw [z2,hfree] at e
   cases e
  ·intro z2
   rw [z2,hfree] at z
   cases z
 have hos:s1.os=s.os:=J.os
 obtain ⟨hh,g,d,t,os'⟩:=s1
 obtain rfl:os'=s.os:=hos
 have r:=Inv.call (X:=X) (pins:=pins) (σ:=σ) (H:=H) (s:=s) (h':=h') (g':=g) (d':=d) (t':=t) (ch:=fp) I u hok J.bare fun b hb=>let ⟨f0,f1,f2,f3,f4,f5⟩:=hfp b hb;⟨f3,f1,f4,f5⟩
 exact r
end
theorem compLoop_own {prog:Program}{w:World}{A:Around}{R:Result->Shared->Prop}{s:Shared}{elt target iter:Expr}{ifs:List Expr}{scope:Scope}{pos:Pos}{it acc:Value}{env:Env}(I:Nat->Shared->Prop)
  (turn:∀ n s,I n s->wpAny (model prog w) A (pyNext it) (fun r s₁=>match r with
   | none=>R (.ok .next) s₁
   | some v=>wpAny (model prog w) A (letOwnedTupleGo target it v) (fun _ s₁'=>wpAny (model prog w) A (assign target env v) (fun _ s₂=>
     wpAny (model prog w) A (forIn ifs true fun c r=>if r=true then do let ok <- isTrue c env (eval c env);pure (ForInStep.yield ok) else pure (ForInStep.yield r)) (fun ok s₃=>
      if ok=true then wpAny (model prog w) A (eval elt env) (fun x s₄=>
       wpAny (model prog w) A (call (.builtin "list.append") [acc,x]) (fun _ s₅=>∃ m,m<n/\I m s₅) (fun _ _=>False) s₄) (fun _ _=>False) s₃
      else ∃ m,m<n/\I m s₃) (fun _ _=>False) s₂) (fun _ _=>False) s₁') (fun _ _=>False) s₁) (fun _ _=>False) s)
  (n:Nat)(h:I n s) :
  codeAny (model prog w) A (.compLoop (.ListComp elt [⟨target,iter,ifs,0⟩] scope pos) 0 it acc env) R s:=by
 refine codeAny_loop rfl I (fun n s hI=>?_) n h
 show wpAny _ A ((compTurn (.ListComp elt [⟨target,iter,ifs,0⟩] scope pos) 0 it acc env).onRaise (fun x=>do noteFrame x env;theTreesLotGoes x)) _ _ s
 refine wpAny_noted ?_
 rw [compTurn_list]
 refine wpAny_bind (wpAny_standAt (wpAny_bind (wpAny_mono (turn n s hI) (fun r s₁ h₁=>?_) fun _ _ h'=>h'.elim)))
 cases r with
 | none=>exact wpAny_pure h₁
 | some v=>
  refine wpAny_bind (wpAny_mono h₁ (fun _ s₁' h₁'=>?_) fun _ _ h'=>h'.elim)
  refine wpAny_bind (wpAny_mono h₁' (fun _ s₂ h₂=>wpAny_bind (wpAny_mono h₂ (fun ok s₃ h₃=>?_) fun _ _ h'=>h'.elim)) fun _ _ h'=>h'.elim)
  cases ok with
  | false=>exact wpAny_pure ⟨rfl,h₃⟩
  | true=>
   exact wpAny_bind (wpAny_bind (wpAny_mono h₃ (fun x s₄ h₄=>wpAny_bind (wpAny_mono h₄ (fun _ s₅ h₅=>wpAny_pure (wpAny_pure ⟨rfl,h₅⟩)) fun _ _ h'=>h'.elim)) fun _ _ h'=>h'.elim))
noncomputable def appD (μ:Hm)(a:Nat)(y:D):Option Hm:=match μ[a]? with
 | some (.lst xs)=>if xs.length<sizeLine then some (μ.set a (.lst (xs++[y]))) else none
 | _=>none
noncomputable abbrev BD:=D->Hm->Option Rho
noncomputable def bdOne:BD:=fun d _=>some [some d]
noncomputable def bdTup (k:Nat):BD:=fun d μ=>(seqD μ d).bind fun xs=>if xs.length=k then some (xs.map some) else none
noncomputable def goCompG (src:Hm->Nat->Option (Option D))(bd:BD)(c:MT)(e:ME)(ρ:Rho)(a0:Nat):Nat->Nat->Hm->Option Hm
 | 0,_,_=>none
 | n+1,i,μ=>(src μ i).bind fun o=>match o with
  | none=>some μ
  | some d=>(bd d μ).bind fun x=>(c (ρ++x) μ).bind fun p=>match p.1 with
   | true=>(e (ρ++x) p.2).bind fun q=>(appD q.2 a0 q.1).bind fun μ3=>goCompG src bd c e ρ a0 n (i+1) μ3
   | false=>goCompG src bd c e ρ a0 n (i+1) p.2
noncomputable def mTrue:MT:=fun _ μ=>some (true,μ)
noncomputable def PIfs (X:Cx)(ifs:List Expr)(m:MT):Prop:=
 ∀ (pins:List (Addr×Obj))(s:Shared)(σ:St)(H:Hp)(Q:Bool->Hp->Prop),Inv X pins σ H s->tMT X.K m σ H Q->
  wpAny (model X.prog X.w) X.A (forIn ifs true fun c r=>if r=true then do let ok <- isTrue c X.env (eval c X.env);pure (ForInStep.yield ok) else pure (ForInStep.yield r)) (TP X pins σ Q) X.xe s
theorem pifs_nil {X:Cx}:PIfs X [] mTrue:=by
 intro pins s σ H Q I h
 obtain ⟨π,ρ,μ,b,μ',R,E,hm,k⟩:=h
 cases hm
 exact wpAny_tests_nil ⟨H,I,k π H .refl R⟩
theorem pifs_one {X:Cx}{c:Expr}{m:MT}(h:PT X c (tMT X.K m)):PIfs X [c] m:=fun pins s σ H Q I q=>wpAny_tests_one (h pins s σ H Q I q)
end L3
namespace L3
open PySem L2
section
variable {prog:Program}{w:World}{A:Around}{E:Value->Shared->Prop}{s:Shared}
theorem draw_list {it t:Addr}{items:Array Value}(hne:t≠it):∀ (n i:Nat)(s:Shared)(Q:List Value->Shared->Prop),s.heap.IsListIter it t i->s.heap.IsList t items->i+n<=items.size->
  (∀ h',h'.IsListIter it t (i+n)->Heap.SameBut it s.heap h'->Q ((items.toList.drop i).take n) { s with heap:=h' })->wpAny (model prog w) A (draw (.ref it) n) Q E s
 | 0,i,s,Q,hit,_,_,hQ=>by
  show wpAny _ _ (pure []) Q E s
  exact wpAny_pure (by simpa using hQ s.heap hit (Heap.SameBut.refl ..))
 | n+1,i,s,Q,hit,ht,hle,hQ=>by
  have hlt:i<items.size:=by omega
  show wpAny _ _ (pyNext (.ref it) >>= _) Q E s
  refine wpAny_bind (wpAny_pyNext_list_item hit ht (x:=items[i]) (by simp [hlt]) fun h₁ hit₁ hs₁=>?_)
  refine wpAny_bind (wpAny_holding (draw_list hne n (i+1) _ _ hit₁ (ht.extBut hs₁.extBut hne) (by omega) fun h₂ hit₂ hs₂=>wpAny_pure ?_))
  have hd:items.toList.drop i=items[i]::items.toList.drop (i+1):=by simp [List.drop_eq_getElem_cons,hlt]
  have:=hQ h₂ (by rw [show i+(n+1)=i+1+n by omega];exact hit₂) (hs₁.trans hs₂)
  rw [hd,List.take_succ_cons] at this
  exact this
theorem unpackItems_list {t:Addr}{items:Array Value}{Q:List Value->Shared->Prop}(hh:A.handled=none)(ht:s.heap.IsList t items)
  (hQ:∀ h',Heap.ExtBut s.heap.objs.size s.heap h'->Q items.toList { s with heap:=h' }):wpAny (model prog w) A (unpackItems (.ref t) items.size none) Q E s:=by
 have hlt:t≠s.heap.objs.size:=by obtain ⟨o,ho,_⟩:=ht;exact Nat.ne_of_lt (Heap.lt_size ho)
 unfold unpackItems
 refine wpAny_bind ?_
 ·unfold notIterableAtAll
  refine wpAny_bind (wpAny_specialOf ht.typeIs slot_list_iter.lookup ?_)
  refine wpAny_pure ?_
  simp only [Bool.false_eq_true,if_false]
  refine wpAny_bind (wpAny_holding (wpAny_pyIter_list ht ?_))
  refine wpAny_bind (wpAny_holding (draw_list hlt items.size 0 _ _ ⟨_,Heap.get?_push_size _ rfl,rfl,rfl⟩ (ht.push _) (by omega) fun h₁ hit₁ hs₁=>?_))
  have hall:List.take items.size (List.drop 0 items.toList)=items.toList:=by
   rw [List.drop_zero];exact List.take_of_length_le (by simp)
  rw [hall]
  rw [if_neg (by simp)]
  have ht₁:h₁.IsList t items:=(ht.push _).extBut hs₁.extBut hlt
  refine wpAny_bind (wpAny_holding (wpAny_pyNext_list_end hh hit₁ ht₁ (by simp) fun h₂ he₂=>?_))
  simp only [Option.isSome_none,Bool.false_eq_true,if_false]
  refine wpAny_pure (hQ h₂ fun b o hb e=>he₂ b o hb (hs₁.extBut b o hb (Heap.get?_push_of_some _ e)))
theorem assign_Tuple_list {env:Env}{elts:List Expr} {x1} {pos:Pos}{t:Addr}{items:Array Value}{Q:Unit->Shared->Prop}(hh:A.handled=none)(ht:s.heap.IsList t items)
  (hn:(assignEach elts env).length=items.size)(hstar:(assignEach elts env).findIdx? (·.1)=none)
  (h:∀ h',Heap.ExtBut s.heap.objs.size s.heap h'->wpAny (model prog w) A (assignInOrder ((assignEach elts env).map (·.2)) items.toList) Q E { s with heap:=h' }) :
  wpAny (model prog w) A (assign (.Tuple elts x1 pos) env (.ref t)) Q E s:=by
 rw [PyProof.Rows.assign_Tuple]
 refine wpAny_bind (wpAny_standAt ?_)
 unfold unpack
 rw [hn,hstar]
 exact wpAny_bind (wpAny_holding (unpackItems_list hh ht h))
end
noncomputable def setAll:Rho->List Nat->List D->Rho
 | ρ,i::is,x::xs=>setAll (ρ.set i (some x)) is xs
 | ρ,_,_=>ρ
noncomputable def gTupD (is:List Nat):MG:=fun d ρ μ=>(seqD μ d).bind fun xs=>if xs.length=is.length then some (setAll ρ is xs) else none
noncomputable def gsOf:List Nat->TGs
 | []=>gNil
 | i::r=>gCons (gName i) (gsOf r)
theorem gs_read {K:PySem.W.Frag}{π:Nat->Addr}{n:Nat}{H:Hp}:∀ (is:List Nat){vs:List V}{xs:List D}{σ:St}{ρ:Rho}{Q:St->Hp->Prop},IsDs K π n H vs xs->En K π n H σ ρ->xs.length=is.length->(∀ σ',En K π n H σ' (setAll ρ is xs)->Q σ' H)->gsOf is vs σ H Q
 | [],vs,xs,σ,ρ,Q,h,E,hl,k=>by
  cases h with
  | nil=>exact ⟨rfl,k σ E⟩
  | cons h t=>cases hl
 | i::is,vs,xs,σ,ρ,Q,h,E,hl,k=>by
  cases h with
  | nil=>cases hl
  | cons h t=>exact ⟨_,_,rfl,gs_read is t (E.set h i) (by simpa using hl) k⟩
section
variable {X:Cx}{pos:Pos}
theorem pmg_tup {es:List Expr}{k:Nat}{is:List Nat}(hc:X.calm=true)(h:PGs X es (gsOf is))(hn:(assignEach es X.env).length=is.length:=by rfl)(hst:(assignEach es X.env).findIdx? (·.1)=none:=by rfl) :
  PG X (.Tuple es k pos) (tMG X.K (gTupD is)):=by
 intro pins s σ H v u Q I r hw
 obtain ⟨π,ρ,μ,d,ρ',R,E,hd,hm,kk⟩:=hw
 obtain ⟨xs,h1,h2⟩:=Zb.mp hm
 split at h2
 ·rename_i hl
  cases h2
  have both:(∃ a vs,v=.ref a/\SqT X.K H a vs/\IsDs X.K π μ.length H vs xs)\/(∃ a vs,v=.ref a/\SqL X.K H a vs/\IsDs X.K π μ.length H vs xs):=by
   cases hd with
   | tup q t=>cases h1;exact .inl ⟨_,_,rfl,q,t⟩
   | rol q t=>cases h1;exact .inr ⟨_,_,rfl,q.sq,t⟩
   | @loc a ha=>
    simp only [seqD] at h1
    split at h1
    ·rename_i ys hy
     cases h1
     obtain ⟨vs,h3,h4⟩:=R.lst a xs hy
     exact .inr ⟨_,vs,rfl,.of h3,h4⟩
    ·cases h1
   | _=>cases h1
  rcases both with ⟨a,vs,rfl,q,t⟩|⟨a,vs,rfl,q,t⟩
  ·cases r
   obtain ⟨its,rv,ht,hz⟩:=I.tuple q
   have hlen:its.length=is.length:=by rw [<- rv.length,t.length];exact hl
   refine PyProof.Rows.assign_Tuple_tuple (I.ok.hd hc) ht (by simp [hn,hlen]) hst fun h' hx=>?_
   have I1:Inv X pins σ H { s with heap:=h' }:=I.kept (t':=s.toks) fun b o e=>hx b o (Nat.ne_of_lt (Heap.lt_size e)) e
   exact h pins _ σ H vs _ Q I1 (by simpa using rv) (gs_read is t E hl kk)
  ·cases r
   obtain ⟨its,rv,ht,hz⟩:=I.list q
   have hlen:its.length=is.length:=by rw [<- rv.length,t.length];exact hl
   refine assign_Tuple_list (I.ok.hd hc) ht.isList (by simp [hn,hlen]) hst fun h' hx=>?_
   have I1:Inv X pins σ H { s with heap:=h' }:=I.kept (t':=s.toks) fun b o e=>hx b o (Nat.ne_of_lt (Heap.lt_size e)) e
   exact h pins _ σ H vs _ Q I1 (by simpa using rv) (gs_read is t E hl kk)
 ·cases h2
noncomputable def mAsg (m:ME)(g:MG):MS:=fun ρ μ=>(m ρ μ).bind fun p=>(g p.1 ρ p.2).map fun ρ'=>(.nx,ρ',p.2)
theorem pms_asg {tg e:Expr}{m:ME}{g:MG}(he:PE X e (tM X.K m))(hg:PG X tg (tMG X.K g))(hs:swapsWithSole [tg] e pos.line X.env=pure false:=by rfl)(hw:swappedStores [tg] e X.env=pure none:=by rfl)
  (h1:(assignEach [tg] X.env).map (·.2)=[assign tg X.env]:=by rfl):PS X (.Assign [tg] e pos) (tMS X.K (mAsg m g)):=pms_weak (ps_asg he hg hs hw h1) (by
 rintro E σ H ⟨π,ρ,μ,fl,ρ',μ',R,EN,hm,k⟩
 obtain ⟨⟨x,μ1⟩,h1,hm⟩:=Zb.mp hm
 obtain ⟨ρ1,h2,hm⟩:=Zm.mp hm
 cases hm
 exact ⟨π,ρ,μ,x,μ1,R,EN,h1,fun π1 v1 H1 e1 R1 i1=>⟨π1,ρ,_,x,_,R1,EN.mono e1,i1,h2,fun σ' E'=>k π1 σ' H1 e1 R1 E'⟩⟩)
end
section
variable {X:Cx}{K:PySem.W.Frag}
noncomputable def lenM:MF:=fun ds μ=>match ds with
 | [.str z]=>if z.length<=sizeLine then some (.int z.length,μ) else none
 | [x]=>(seqD μ x).map fun xs=>(.int xs.length,μ)
 | _=>none
noncomputable def rLenM (K:PySem.W.Frag):List V->Hp->VK->Prop:=fun xs H Q=>(∃ p ys,xs=[.ref p]/\(SqL K H p ys\/SqT K H p ys)/\Q (.int ys.length) H)\/(∃ z,xs=[.str z]/\z.length<=sizeLine/\Q (.int z.length) H)
theorem call_lenM:CallR X (.builtin "len") (rLenM X.K):=call_len_seq.or call_len_str
theorem seq_of {π:Nat->Addr}{μ:Hm}{H:Hp}{v:V}{x:D}{xs:List D}(R:Rp K π H μ)(h:IsD K π μ.length H v x)(e:seqD μ x=some xs):∃ p vs,v=.ref p/\(SqL K H p vs\/SqT K H p vs)/\IsDs K π μ.length H vs xs:=by
 cases h with
 | tup q t=>cases e;exact ⟨_,_,rfl,.inr q,t⟩
 | rol q t=>cases e;exact ⟨_,_,rfl,.inl q.sq,t⟩
 | @loc a ha=>
  simp only [seqD] at e
  split at e
  ·rename_i ys hy
   cases e
   obtain ⟨vs,h3,h4⟩:=R.lst a xs hy
   exact ⟨_,vs,rfl,.inl (.of h3),h4⟩
  ·cases e
 | _=>cases e
theorem lenM_ok:CallD K lenM (rLenM K):=by
 intro π H μ xs d μ' vs Q R i hm k
 unfold lenM at hm
 split at hm
 ·split at hm
  ·rename_i hl
   cases hm
   cases i with
   | cons i t=>cases i;cases t;exact .inr ⟨_,rfl,hl,k π _ H .refl R (.int _)⟩
  ·cases hm
 ·obtain ⟨ys,h1,h2⟩:=Zm.mp hm
  cases h2
  cases i with
  | cons i t=>
   cases t
   obtain ⟨p,ws,rfl,q,hd⟩:=seq_of R i h1
   refine .inl ⟨p,ws,rfl,q,?_⟩
   rw [hd.length]
   exact k π _ H .refl R (.int _)
 ·cases hm
noncomputable def intM:MF:=fun ds μ=>match ds with
 | [.int i]=>some (.int i,μ)
 | [.bl b]=>some (.int (if b then 1 else 0),μ)
 | _=>none
theorem intM_ok:CallD K intM (fun xs H Q=>(∃ i,xs=[.int i]/\Q (.int i) H)\/∃ k,xs=[.bl k]/\Q (.int (if k then 1 else 0)) H):=by
 intro π H μ xs d μ' vs Q R i hm k
 unfold intM at hm
 split at hm
 ·cases hm
  cases i with
  | cons i t=>cases i;cases t;exact .inl ⟨_,rfl,k π _ H .refl R (.int _)⟩
 ·cases hm
  cases i with
  | cons i t=>cases i;cases t;exact .inr ⟨_,rfl,k π _ H .refl R (.int _)⟩
 ·cases hm
noncomputable def listM:MF:=fun ds μ=>match ds with
 | [x]=>(seqD μ x).map fun xs=>(.loc μ.length,μ++[.lst xs])
 | _=>none
theorem listM_ok:CallD K listM (fun xs H Q=>∃ p ys,xs=[.ref p]/\(SqL K H p ys\/SqT K H p ys)/\∀ l,H l=none->Q (.ref l) (upd H l (.lst ys))):=by
 intro π H μ xs d μ' vs Q R i hm k
 unfold listM at hm
 split at hm
 ·obtain ⟨ys,h1,h2⟩:=Zm.mp hm
  cases h2
  cases i with
  | cons i t=>
   cases t
   obtain ⟨p,ws,rfl,q,hd⟩:=seq_of R i h1
   refine ⟨p,ws,rfl,q,fun l hl=>?_⟩
   obtain ⟨e2,R2,_⟩:=R.alloc (c:=.lst ys) (o:=.lst ws) hl hd
   exact k _ _ _ e2 R2 alloc_loc
 ·cases hm
noncomputable def rInst (K:PySem.W.Frag):List V->Hp->VK->Prop:=fun vs H Q=>∃ π μ x v t c b,vs=[v,.ty c]/\Rp K π H μ/\IsD K π μ.length H v x/\tyD μ x=some t/\instT t c=some b/\Q (.bl b) H
theorem isInst_ok:CallD K isInst (rInst K):=by
 intro π H μ xs d μ' vs Q R i hm k
 unfold isInst at hm
 split at hm
 ·obtain ⟨t,h1,hm⟩:=Zb.mp hm
  obtain ⟨b,h2,hm⟩:=Zm.mp hm
  cases hm
  cases i with
  | cons i t1=>
   cases t1 with
   | cons i2 t2=>
    cases t2
    cases i2
    exact ⟨π,_,_,_,t,_,b,rfl,R,i,h1,h2,k π _ H .refl R (.bl _)⟩
 ·cases hm
theorem call_isInst:CallR X (.builtin "isinstance") (rInst X.K):=by
 intro pins s σ H xs us Q I r h
 obtain ⟨π,μ,x,v,t,c,b,rfl,R,i,h1,h2,q⟩:=h
 obtain ⟨u,u2,rfl,r1,r2⟩:=vals2 r
 cases r2
 have fin:∀ tk,EP X pins σ Q (.bool b) { s with toks:=tk }:=fun tk=>⟨.bl b,H,I.tok tk,rfl,q⟩
 cases i with
 | non=>cases h1;cases r1;exact PySem.W.kia_one PySem.W.kitx_none I.kIn True.intro (kit_inst X.K (by simp) h2) (fun z=>nomatch z) fin
 | bl y=>cases h1;cases r1;exact PySem.W.kia_one PySem.W.kitx_bool I.kIn True.intro (kit_inst X.K (by simp) h2) (fun z=>nomatch z) fin
 | int y=>cases h1;obtain ⟨t,rfl⟩:=r1;exact PySem.W.kia_one PySem.W.kitx_int I.kIn True.intro (kit_inst X.K (by simp) h2) (fun z=>nomatch z) fin
 | str y=>cases h1;obtain ⟨t,rfl⟩:=r1;exact PySem.W.kia_one PySem.W.kitx_str I.kIn True.intro (kit_inst X.K (by simp) h2) (fun z=>nomatch z) fin
 | tup g t=>
  cases h1
  cases r1
  obtain ⟨its,r',p,_⟩:=I.tuple g
  obtain ⟨o,e1,e2,_⟩:=p
  exact PySem.W.kia_one PySem.W.kitx_tuple I.kIn ⟨o,e1,e2⟩ (kit_inst X.K (by simp) h2) (fun z=>nomatch z) fin
 | rol g t=>
  cases h1
  cases r1
  obtain ⟨its,r',p,_⟩:=I.list g.sq
  obtain ⟨o,e1,e2,_⟩:=p.isList
  exact PySem.W.kia_one PySem.W.kitx_list I.kIn ⟨o,e1,e2⟩ (kit_inst X.K (by simp) h2) (fun z=>nomatch z) fin
 | @loc a ha=>
  cases r1
  simp only [tyD] at h1
  split at h1
  ·rename_i xs hx
   cases h1
   obtain ⟨vs,h3,h4⟩:=R.lst a xs hx
   obtain ⟨its,r',p,_⟩:=I.list (SqL.of (K:=X.K) h3)
   obtain ⟨o,e1,e2,_⟩:=p.isList
   exact PySem.W.kia_one PySem.W.kitx_list I.kIn ⟨o,e1,e2⟩ (kit_inst X.K (by simp) h2) (fun z=>nomatch z) fin
  ·rename_i kvs hx
   cases h1
   obtain ⟨vs,h3,_⟩:=R.dK a kvs hx
   obtain ⟨_,_,ws,_,p⟩:=(show ObjOk X.prog X.w H s.heap (π a) (.dK vs) from I.hok _ _ h3)
   obtain ⟨o,es,ep,e1,e2,_⟩:=p
   exact PySem.W.kia_one PySem.W.kitx_dict I.kIn ⟨o,e1,e2.1⟩ (kit_inst X.K (by simp) h2) (fun z=>nomatch z) fin
  ·cases h1
 | ty n=>cases h1
end
noncomputable def keyD:D->Option Key
 | .int i=>some (.inl i)
 | .str x=>some (.inr x)
 | _=>none
noncomputable def putD (kvs:List (Key×D))(k:Key)(d:D):List (Key×D):=
 if (kvs.any fun kv=>decide (kv.1=k))=true then kvs.map (fun kv=>if kv.1=k then (kv.1,d) else kv) else kvs++[(k,d)]
noncomputable def valD (kvs:List (Key×D))(k:Key):Option D:=(kvs.find? fun kv=>decide (kv.1=k)).map (·.2)
inductive IsKs (K:PySem.W.Frag)(π:Nat->Addr)(n:Nat)(H:Hp):List (Key×V)->List (Key×D)->Prop where
 | nil:IsKs K π n H [] []
 | cons {k:Key}{v:V}{d:D}{vs:List (Key×V)}{ds:List (Key×D)}(h:IsD K π n H v d)(t:IsKs K π n H vs ds):IsKs K π n H ((k,v)::vs) ((k,d)::ds)
section
variable {K:PySem.W.Frag}{π π':Nat->Addr}{n n':Nat}{H H':Hp}
theorem IsKs.maps {vs:List (Key×V)}{ds:List (Key×D)}(h:IsKs K π n H vs ds):vs.map (·.1)=ds.map (·.1)/\IsDs K π n H (vs.map (·.2)) (ds.map (·.2)):=by
 induction h with
 | nil=>exact ⟨rfl,.nil⟩
 | cons h t ih=>exact ⟨by rw [List.map_cons,List.map_cons,ih.1],.cons h ih.2⟩
theorem IsKs.of:∀ {vs:List (Key×V)}{ds:List (Key×D)},vs.map (·.1)=ds.map (·.1)->IsDs K π n H (vs.map (·.2)) (ds.map (·.2))->IsKs K π n H vs ds
 | [],[],_,_=>.nil
 | [],_::_,h,_=>by cases h
 | _::_,[],h,_=>by cases h
 | (k,v)::vs,(k',d)::ds,h,t=>by
  rw [List.map_cons,List.map_cons] at h t
  injection h with h1 h2
  dsimp only at h1
  subst h1
  cases t with
  | cons t1 t2=>exact .cons t1 (IsKs.of h2 t2)
theorem IsKs.append {vs ws:List (Key×V)}{ds es:List (Key×D)}(h:IsKs K π n H vs ds)(h2:IsKs K π n H ws es):IsKs K π n H (vs++ws) (ds++es):=by
 induction h with
 | nil=>exact h2
 | cons h t ih=>exact .cons h ih
theorem IsKs.any {vs:List (Key×V)}{ds:List (Key×D)}(h:IsKs K π n H vs ds)(k:Key):(vs.any fun kv=>decide (kv.1=k))=ds.any fun kv=>decide (kv.1=k):=by
 induction h with
 | nil=>rfl
 | cons h t ih=>rw [List.any_cons,List.any_cons,ih]
theorem IsKs.repl {vs:List (Key×V)}{ds:List (Key×D)}(h:IsKs K π n H vs ds){v:V}{d:D}(hv:IsD K π n H v d)(k:Key):IsKs K π n H (vs.map fun kv=>if kv.1=k then (kv.1,v) else kv) (ds.map fun kv=>if kv.1=k then (kv.1,d) else kv):=by
 induction h with
 | nil=>exact .nil
 | @cons k' v' d' vs ds h t ih=>
  rw [List.map_cons,List.map_cons]
  by_cases e:k'=k
  ·simp only [e,if_true]
   exact .cons hv ih
  ·simp only [e,if_false]
   exact .cons h ih
theorem IsKs.put {vs:List (Key×V)}{ds:List (Key×D)}(h:IsKs K π n H vs ds){v:V}{d:D}(hv:IsD K π n H v d)(k:Key):IsKs K π n H (putK vs k v) (putD ds k d):=by
 unfold putK putD
 rw [h.any k]
 split
 ·exact h.repl hv k
 ·exact h.append (.cons hv .nil)
theorem IsKs.val {vs:List (Key×V)}{ds:List (Key×D)}(h:IsKs K π n H vs ds)(k:Key):(valD ds k=none/\valV vs k=none)\/∃ v d,valD ds k=some d/\valV vs k=some v/\IsD K π n H v d:=by
 induction h with
 | nil=>exact .inl ⟨rfl,rfl⟩
 | @cons k' v' d' vs ds h t ih=>
  by_cases e:k'=k
  ·exact .inr ⟨v',d',by simp [valD,List.find?_cons,e],by simp [valV,List.find?_cons,e],h⟩
  ·have e1:valD ((k',d')::ds) k=valD ds k:=by simp [valD,List.find?_cons,e]
   have e2:valV ((k',v')::vs) k=valV vs k:=by simp [valV,List.find?_cons,e]
   rw [e1,e2]
   exact ih
theorem IsKs.length {vs:List (Key×V)}{ds:List (Key×D)}(h:IsKs K π n H vs ds):vs.length=ds.length:=by
 induction h with
 | nil=>rfl
 | cons h t ih=>rw [List.length_cons,List.length_cons,ih]
theorem key_is {y:V}{d:D}{k:Key}(h:IsD K π n H y d)(e:keyD d=some k):y=kV k:=by
 cases h<;>first|cases e;done|(cases e;rfl)
end
noncomputable def tPr (K:PySem.W.Frag)(prs:List (ME×ME)):List (TE×TE):=prs.map fun p=>(tM K p.1,tM K p.2)
section
variable {X:Cx}{a b c:Expr}{ma mb mc:ME}{pos:Pos}
noncomputable def dgetD:D->D->Hm->Option (D×Hm)
 | .loc a,y,μ=>match μ[a]? with
  | some (.dK kvs)=>(keyD y).bind fun k=>(valD kvs k).map fun d=>(d,μ)
  | _=>none
 | _,_,_=>none
theorem dget_of {K:PySem.W.Frag}{π:Nat->Addr}{μ:Hm}{H:Hp}{a:Nat}{kvs:List (Key×D)}(R:Rp K π H μ)(h:μ[a]? = some (.dK kvs)){y:V}{dy:D}{k:Key}(hy:IsD K π μ.length H y dy)(hk:keyD dy=some k) :
  (valD kvs k=none/\DGet H (π a) y none)\/∃ v d,valD kvs k=some d/\DGet H (π a) y (some v)/\IsD K π μ.length H v d:=by
 obtain ⟨vs,h1,h2,h3⟩:=R.dK a kvs h
 have e:=key_is hy hk
 subst e
 have g:=DGet.k (k:=k) h1
 rcases (IsKs.of h2 h3).val k with ⟨z1,z2⟩|⟨v,d,z1,z2,z3⟩
 ·exact .inl ⟨z1,by rw [<- z2];exact g⟩
 ·exact .inr ⟨v,d,z1,by rw [<- z2];exact g,z3⟩
theorem pm_dget (hu:X.A.units+1<cLine)(ha:PE X a (tM X.K ma))(hb:PE X b (tM X.K mb))(hs:NoSl b):PE X (.Subscript a b pos) (tM X.K (mOp dgetD ma mb)):=pm_weak (pe_dget hu ha hb hs) (by
 intro σ H Q h
 refine mOp_read (r:=fun x y H Q=>∃ a v,x=.ref a/\DGet H a y (some v)/\Q v H) ?_ σ H Q h
 intro π H μ x y d μ' vx vy Q R ix iy hm k
 unfold dgetD at hm
 split at hm
 ·split at hm
  ·rename_i kvs hc
   obtain ⟨kk,h1,hm⟩:=Zb.mp hm
   obtain ⟨d',h2,hm⟩:=Zm.mp hm
   cases hm
   cases ix
   rcases dget_of R hc iy h1 with ⟨z1,_⟩|⟨v,d2,z1,z2,z3⟩
   ·rw [z1] at h2;cases h2
   ·rw [z1] at h2
    cases h2
    exact ⟨_,v,rfl,z2,k π _ H .refl R z3⟩
  ·cases hm
 ·cases hm)
end
theorem hu1 {k:Nat}{A:Around}(r:Room k A):A.units+1<cLine:=by have:=r.un;omega
noncomputable def mNeg (ma:ME):ME:=fun ρ μ=>(ma ρ μ).bind fun p=>(negD p.1).map fun d=>(d,p.2)
end L3
namespace L3
open PySem L2
noncomputable def cloOf (cells:List (Str×Addr)):List (Str×NameKind)->List (Str×Addr)->List (Str×Addr)
 | [],acc=>acc
 | (n,k)::r,acc=>if k=.free then (match cells.lookup n with|some c=>cloOf cells r ((n,c)::acc)|none=>cloOf cells r acc) else cloOf cells r acc
theorem closure_go {env:Env}:∀ (names:List (Str×NameKind))(acc:List (Str×Addr)),(∀ y∈names,y.2=.free->∃ c,env.cells.lookup y.1=some c)->
  (forIn names acc fun (x:Str×NameKind)(cs:List (Str×Addr))=>(do
   if x.2 == .free then (do let c <- cellOf env x.1;pure (ForInStep.yield ((x.1,c)::cs))) else pure (ForInStep.yield cs):Sem (ForInStep (List (Str×Addr)))))=pure (cloOf env.cells names acc)
 | [],acc,_=>rfl
 | (n,k)::r,acc,h=>by
  have ih:=fun acc=>closure_go r acc fun y hy=>h y (List.mem_cons_of_mem _ hy)
  rw [List.forIn_cons]
  by_cases hk:k=.free
  ·subst hk
   obtain ⟨c,hc⟩:=h (n,.free) (List.mem_cons_self ..) rfl
   dsimp only at hc
   have e:cellOf env n=pure c:=by unfold cellOf;rw [hc]
   simp only [cloOf,hc,e,beq_self_eq_true,if_true,pure_bind]
   exact ih _
  ·have e:(k == NameKind.free)=false:=by simpa using hk
   simp only [cloOf,e,hk,if_false,Bool.false_eq_true,pure_bind]
   exact ih _
theorem closure_of {scope:Scope}{env:Env}(h:∀ y∈scope.names,y.2=.free->∃ c,env.cells.lookup y.1=some c):closureFor scope env=pure (cloOf env.cells scope.names []):=by
 have:=closure_go (env:=env) scope.names [] h
 unfold closureFor
 simp only [bind_pure] at *
 exact this
theorem clo_sub {cells:List (Str×Addr)}:∀ (names:List (Str×NameKind))(acc:List (Str×Addr)),(∀ y c,acc.lookup y=some c->cells.lookup y=some c)->∀ y c,(cloOf cells names acc).lookup y=some c->cells.lookup y=some c
 | [],acc,h=>h
 | (n,k)::r,acc,h=>by
  unfold cloOf
  split
  ·split
   ·rename_i c0 hc
    refine clo_sub r _ fun y c e=>?_
    rw [List.lookup_cons] at e
    by_cases hy:y=n
    ·subst hy
     simp only [beq_self_eq_true] at e
     cases e
     exact hc
    ·have:(y == n)=false:=by simpa using hy
     rw [this] at e
     exact h y c e
   ·exact clo_sub r acc h
  ·exact clo_sub r acc h
theorem clo_keep {cells:List (Str×Addr)}:∀ (names:List (Str×NameKind))(acc:List (Str×Addr))(y:Str),(∃ c,acc.lookup y=some c)->∃ c,(cloOf cells names acc).lookup y=some c
 | [],acc,y,h=>h
 | (n,k)::r,acc,y,h=>by
  unfold cloOf
  split
  ·split
   ·refine clo_keep r _ y ?_
    rw [List.lookup_cons]
    by_cases hy:(y == n)=true
    ·rw [hy];exact ⟨_,rfl⟩
    ·have:(y == n)=false:=by simpa using hy
     rw [this]
     exact h
   ·exact clo_keep r acc y h
  ·exact clo_keep r acc y h
theorem clo_has {cells:List (Str×Addr)}:∀ (names:List (Str×NameKind))(acc:List (Str×Addr))(y:Str),(y,NameKind.free)∈names->(∃ c,cells.lookup y=some c)->∃ c,(cloOf cells names acc).lookup y=some c
 | [],acc,y,h,_=>by cases h
 | (n,k)::r,acc,y,h,hc=>by
  unfold cloOf
  rcases List.mem_cons.mp h with h|h
  ·cases h
   obtain ⟨c,hc⟩:=hc
   rw [if_pos rfl,hc]
   exact clo_keep r _ _ ⟨c,by simp [List.lookup_cons]⟩
  ·split
   ·split
    ·exact clo_has r _ y h hc
    ·exact clo_has r _ y h hc
   ·exact clo_has r _ y h hc
structure CompSt (osc:Scope)(N:List Str)(scope:Scope)(xs:List Str):Prop where
 nocell:∀ y∈scope.names,y.2≠.cell
 kind:scope.kind=.function
 names:∀ y∈scope.names,y.2=.local->scope.names.lookup y.1=some .local
 here:∀ x∈xs,scope.names.lookup x=some .local
 free:∀ y∈scope.names,y.2=.free->osc.names.lookup y.1=some .cell\/osc.names.lookup y.1=some .free
 own:∀ y∈scope.names,y.2=.local->y.1∉hid xs N
 nd:N.Nodup
 hnd:(hid xs N).Nodup
 hidn:∀ y∈N,xs.contains y=true->scope.names.lookup (hidName y)=none
theorem CompSt.ok {X:Cx}{scope:Scope}{xs:List Str}(S:CompSt X.env.scope X.N scope xs)(ok:X.Ok):CompOk X scope (cloOf X.env.cells scope.names []) xs:=by
 have has:∀ y∈scope.names,y.2=.free->∃ c,X.env.cells.lookup y.1=some c:=fun y hy hf=>ok.has y.1 (S.free y hy hf)
 refine ⟨closure_of has,S.nocell,S.kind,S.names,S.here,clo_sub scope.names [] (fun y c e=>by cases e),fun y e=>?_,fun y e=>?_,S.hidn⟩
 ·have hm:=PySem.mem_of_lookup e
  exact ⟨S.free _ hm rfl,clo_has scope.names [] y hm (has _ hm rfl)⟩
 ·exact S.own _ (PySem.mem_of_lookup e) rfl
end L3
namespace L3
open PySem L2
section
variable {X:Cx}{pos:Pos}
end
end L3
namespace L3
open PySem L2
noncomputable def noStar:Expr->Bool
 | .Starred ..=>false
 | _=>true
theorem star_cons {e:Expr}{es:List Expr}{env:Env}(h:noStar e=true):starEach (e::es) env=(false,eval e env)::starEach es env:=by
 cases e<;>first|rfl|cases h
theorem star_any {pos:Pos}{env:Env}:∀ {es:List Expr},es.all noStar=true->(backTo pos (starEach es env)).any (·.1)=false
 | [],_=>rfl
 | e::es,h=>by
  rw [List.all_cons,Bool.and_eq_true] at h
  rw [star_cons h.1]
  have:=star_any (pos:=pos) (env:=env) h.2
  simpa [backTo] using this
theorem asg_cons {e:Expr}{es:List Expr}{env:Env}(h:noStar e=true):assignEach (e::es) env=(false,assign e env)::assignEach es env:=by
 cases e<;>first|rfl|cases h
theorem asg_len {env:Env}:∀ {es:List Expr},es.all noStar=true->(assignEach es env).length=es.length
 | [],_=>rfl
 | e::es,h=>by
  rw [List.all_cons,Bool.and_eq_true] at h
  rw [asg_cons h.1,List.length_cons,List.length_cons,asg_len h.2]
theorem asg_star {env:Env}:∀ {es:List Expr},es.all noStar=true->(assignEach es env).findIdx? (·.1)=none
 | [],_=>rfl
 | e::es,h=>by
  rw [List.all_cons,Bool.and_eq_true] at h
  rw [asg_cons h.1,List.findIdx?_cons,asg_star h.2]
  rfl
section
variable {X:Cx}{e a b c:Expr}{es:List Expr}{m:ME}{ms:MA}{pos:Pos}
end
end L3
namespace L3
open PySem L2
structure QE (X:Cx)(e:Expr)(m:ME):Prop where
 h:PE X e (tM X.K m)
structure QT (X:Cx)(e:Expr)(m:MT):Prop where
 h:PT X e (tMT X.K m)
structure QW (X:Cx)(e:Expr)(m:MT):Prop where
 h:PW X e (tMT X.K m)
structure QA (X:Cx)(es:List Expr)(m:MA)(n:Nat):Prop where
 h:PA X es (tMA X.K m)
 l:∀ ρ μ ds μ',m ρ μ=some (ds,μ')->ds.length=n
 s:es.all noStar=true
structure QO (X:Cx)(e:Option Expr)(m:MO):Prop where
 h:PO X e (tMO X.K m)
structure QS (X:Cx)(st:Stmt)(m:MS):Prop where
 h:PS X st (tMS X.K m)
structure QB (X:Cx)(st:List Stmt)(m:MS):Prop where
 h:PSs X st (tMS X.K m)
structure QG (X:Cx)(e:Expr)(g:MG):Prop where
 h:PG X e (tMG X.K g)
structure QGs (X:Cx)(es:List Expr)(is:List Nat):Prop where
 h:PGs X es (gsOf is)
 n:es.length=is.length
 s:es.all noStar=true
structure QI (X:Cx)(ifs:List Expr)(m:MT):Prop where
 h:PIfs X ifs m
structure QP (X:Cx)(pos:Pos)(keys:List (Option Expr))(values:List Expr)(prs:List (ME×ME)):Prop where
 h:PPs X pos keys values (tPr X.K prs)
 a:keys.all (·.isSome)=true
 l:keys.length=values.length
section
variable {X:Cx}{e a b c:Expr}{m ma mb mc:ME}{pos:Pos}{mt mu:MT}{rest es:List Expr}{ms:MA}{n:Nat}
theorem e_var {x:Str}(i:Nat)(hN:X.N[i]? = some x:=by rfl)(hv:Vis X.env.scope x:=by first|exact Or.inl rfl|exact Or.inr (Or.inl rfl)|exact Or.inr (Or.inr rfl))(hd:(x == ("__debug__":Str))=false:=by decide)
  (hcd:(x == ("__classdict__":Str))=false:=by decide):QE X (.Name x pos) (mVar i):=⟨pm_var i (pe_var hN hv hd hcd)⟩
theorem e_int {i:Int}{j:Nat}:QE X (.Constant (.int i) j pos) (mC (.int i)):=⟨pm_int⟩
theorem e_bl {i:Bool}{j:Nat}:QE X (.Constant (.bool i) j pos) (mC (.bl i)):=⟨pm_bl⟩
theorem e_str {i:Str}{j:Nat}:QE X (.Constant (.str i) j pos) (mC (.str i)):=⟨pm_str⟩
theorem e_non {j:Nat}:QE X (.Constant .none j pos) (mC .non):=⟨pm_non⟩
theorem e_op {op:Operator}{r:R2}{f:D->D->Hm->Option (D×Hm)}(ho:OpR X (binaryOp op) r)(hf:OpD X.K f r)(ha:QE X a ma)(hb:QE X b mb):QE X (.BinOp a op b pos) (mOp f ma mb):=⟨pm_op ho hf ha.h hb.h⟩
theorem e_add (ha:QE X a ma)(hb:QE X b mb):QE X (.BinOp a .Add b pos) (mOp addD ma mb):=e_op op_addD addD_ok ha hb
theorem e_sub (ha:QE X a ma)(hb:QE X b mb):QE X (.BinOp a .Sub b pos) (mOp subD ma mb):=e_op op_sub subD_ok ha hb
theorem e_mul (ha:QE X a ma)(hb:QE X b mb):QE X (.BinOp a .Mult b pos) (mOp mulD ma mb):=e_op (op_mulB.or op_rep) mulD_ok ha hb
theorem e_fdiv (ha:QE X a ma)(hb:QE X b mb):QE X (.BinOp a .FloorDiv b pos) (mOp fdivD ma mb):=e_op op_fdivB fdivD_ok ha hb
theorem e_mod (ha:QE X a ma)(hb:QE X b mb):QE X (.BinOp a .Mod b pos) (mOp modD ma mb):=e_op op_mod modD_ok ha hb
theorem e_pow (ha:QE X a ma)(hb:QE X b mb):QE X (.BinOp a .Pow b pos) (mOp powD ma mb):=e_op op_powB powD_ok ha hb
theorem e_neg (ha:QE X a ma):QE X (.UnaryOp .USub a pos) (mNeg ma):=⟨pm_neg ha.h⟩
theorem e_not (ha:QE X a ma):QE X (.UnaryOp .Not a pos) (mNotV ma):=⟨pm_not ha.h⟩
theorem e_eq {k:Nat}(hr:Room k X.A)(ha:QE X a ma)(hb:QE X b mb):QE X (.Compare a [.Eq] [b] pos) (mOp (eqM false) ma mb):=⟨pm_cmp (op_eqD (hu8 hr)) eqM_ok ha.h hb.h (nomark _)⟩
theorem e_ne {k:Nat}(hr:Room k X.A)(ha:QE X a ma)(hb:QE X b mb):QE X (.Compare a [.NotEq] [b] pos) (mOp (eqM true) ma mb):=⟨pm_cmp (op_neD (hu8 hr)) eqM_ok ha.h hb.h (nomark _)⟩
theorem e_lt (ha:QE X a ma)(hb:QE X b mb):QE X (.Compare a [.Lt] [b] pos) (mOp ltD ma mb):=⟨pm_cmp op_lt intCmp_ok ha.h hb.h (nomark _)⟩
theorem e_le (ha:QE X a ma)(hb:QE X b mb):QE X (.Compare a [.LtE] [b] pos) (mOp leD ma mb):=⟨pm_cmp op_le intCmp_ok ha.h hb.h (nomark _)⟩
theorem e_gt (ha:QE X a ma)(hb:QE X b mb):QE X (.Compare a [.Gt] [b] pos) (mOp gtD ma mb):=⟨pm_cmp op_gt intCmp_ok ha.h hb.h (nomark _)⟩
theorem e_ge (ha:QE X a ma)(hb:QE X b mb):QE X (.Compare a [.GtE] [b] pos) (mOp geD ma mb):=⟨pm_cmp op_ge intCmp_ok ha.h hb.h (nomark _)⟩
noncomputable def noSet:Expr->Bool
 | .Set ..=>false
 | _=>true
theorem nomarkS {op:CmpOp}{b:Expr}(h:noSet b=true):behindInMarks op b=false:=by
 cases b<;>first|rfl|cases h
theorem e_one {op:BoolOp}(h:QE X a m):QE X (.BoolOp op [a] pos) m:=⟨pm_one h.h⟩
theorem e_and (ha:QE X a ma)(hb:QE X (.BoolOp .And (b::rest) pos) mb):QE X (.BoolOp .And (a::b::rest) pos) (mAndV ma mb):=⟨pm_and ha.h hb.h⟩
theorem e_or (ha:QE X a ma)(hb:QE X (.BoolOp .Or (b::rest) pos) mb):QE X (.BoolOp .Or (a::b::rest) pos) (mOrV ma mb):=⟨pm_or ha.h hb.h⟩
theorem e_if (hc:QT X c mt)(ha:QE X a ma)(hb:QE X b mb):QE X (.IfExp c a b pos) (mIfE mt ma mb):=⟨pm_ifExp hc.h ha.h hb.h⟩
theorem a_nil:QA X [] mNil 0:=⟨pma_nil,len_nil,rfl⟩
theorem a_cons (ha:QE X e m)(hr:QA X es ms n)(h:noStar e=true:=by rfl):QA X (e::es) (mCons m ms) (n+1):=⟨pma_cons ha.h hr.h (star_cons h),len_cons hr.l,by rw [List.all_cons,h,hr.s];rfl⟩
theorem e_tup {x1:Nat}(h:QA X es ms n):QE X (.Tuple es x1 pos) (mTup ms):=⟨pm_tup h.h⟩
theorem e_lst (h:QA X es ms n):QE X (.List es pos) (mLst ms):=⟨pm_lst h.h⟩
noncomputable def noSlice:Expr->Bool
 | .Slice ..=>false
 | _=>true
theorem plainIx {b:Expr}(h:noSlice b=true):PlainIx b:=by
 intro o i
 cases b<;>first|rfl|cases h
theorem e_ix (ha:QE X a ma)(hb:QE X b mb)(h:noSlice b=true:=by rfl):QE X (.Subscript a b pos) (mOp ixD ma mb):=⟨pm_ix ha.h hb.h (plainIx h)⟩
theorem e_dget {k:Nat}(hr:Room k X.A)(ha:QE X a ma)(hb:QE X b mb)(h:noSlice b=true:=by rfl):QE X (.Subscript a b pos) (mOp dgetD ma mb):=⟨pm_dget (hu1 hr) ha.h hb.h (plainIx h)⟩
theorem o_none:QO X none mNoPart:=⟨pmo_none⟩
theorem o_some (h:QE X e m):QO X (some e) (mPart m):=⟨pmo_some h.h⟩
theorem e_slice {lo hi:Option Expr}{ml mh:MO}{p2:Pos}(ha:QE X a ma)(hl:QO X lo ml)(hu:QO X hi mh):QE X (.Subscript a (.Slice lo hi none p2) pos) (mSlice ma ml mh):=⟨pm_slice ha.h hl.h hu.h⟩
theorem e_call {k:Nat}{f:Addr}{fd:FuncData}{ps:List Str}{fm:MF}{x:Str}{p:Pos}(F:FnOk X.prog X.w X.K X.mg X.base CX0 k f fd ps (spM X.K n fm))(hr:Room k X.A)(hm:X.mg x=some (.ref f))
  (hk:PySem.W.keepIn X.K (.ref f)=true)(hb:Binds X.K fd ps [])(ha:QA X (e::es) ms n)(hg:Gl X x:=by rfl)(hdb:(x == ("__debug__":Str))=false:=by decide):QE X (.Call (.Name x p) (e::es) [] pos) (mCall fm ms):=by
 have hs:=ha.s
 rw [List.all_cons,Bool.and_eq_true] at hs
 exact ⟨pm_call F hr hg hm hk hb ha.h ha.l hdb (star_cons hs.1) (star_any hs.2)⟩
theorem e_callB {f:MF}{r:List V->Hp->VK->Prop}{id:String}{x:Str}{p:Pos}(hc:CallR X (.builtin id) r)(hf:CallD X.K f r)(hm:X.mg x=none)(hv:bootBuiltins x=some (.builtin id))(ha:QA X (e::es) ms n)
  (hg:Gl X x:=by rfl)(hn:x ≠ "__name__":=by decide) (hdb:(x == ("__debug__":Str))=false:=by decide):QE X (.Call (.Name x p) (e::es) [] pos) (mCall f ms):=by
 have hs:=ha.s
 rw [List.all_cons,Bool.and_eq_true] at hs
 exact ⟨pm_callB hc hf hg hm hv ha.h hn hdb (star_cons hs.1) (star_any hs.2)⟩
theorem e_callT {f:MF}{r:List V->Hp->VK->Prop}{T:String}{x:Str}{p:Pos}(hc:CallR X (.type T) r)(hf:CallD X.K f r)(hm:X.mg x=none)(hv:bootBuiltins x=some (.type T))(ha:QA X (e::es) ms n)
  (hg:Gl X x:=by rfl)(hn:x ≠ "__name__":=by decide) (hdb:(x == ("__debug__":Str))=false:=by decide):QE X (.Call (.Name x p) (e::es) [] pos) (mCall f ms):=by
 have hs:=ha.s
 rw [List.all_cons,Bool.and_eq_true] at hs
 exact ⟨pm_callTy hc hf hg hm hv ha.h hn hdb (star_cons hs.1) (star_any hs.2)⟩
theorem e_ty {x:Str}{n:String}(hm:X.mg x=none)(hv:bootBuiltins x=some (.type n))(hg:Gl X x:=by rfl)(hn:x ≠ "__name__":=by decide) (hd:(x == ("__debug__":Str))=false:=by decide):QE X (.Name x pos) (mC (.ty n)):=⟨pm_ty hg hm hv hn hd⟩
theorem t_eq {k:Nat}(hr:Room k X.A)(ha:QE X a ma)(hb:QE X b mb):QT X (.Compare a [.Eq] [b] pos) (mTest (mOp (eqM false) ma mb)):=⟨pmt_cmp (op_eqD (hu8 hr)) eqM_ok ha.h hb.h (nomark _)⟩
theorem t_ne {k:Nat}(hr:Room k X.A)(ha:QE X a ma)(hb:QE X b mb):QT X (.Compare a [.NotEq] [b] pos) (mTest (mOp (eqM true) ma mb)):=⟨pmt_cmp (op_neD (hu8 hr)) eqM_ok ha.h hb.h (nomark _)⟩
theorem t_lt (ha:QE X a ma)(hb:QE X b mb):QT X (.Compare a [.Lt] [b] pos) (mTest (mOp ltD ma mb)):=⟨pmt_cmp op_lt intCmp_ok ha.h hb.h (nomark _)⟩
theorem t_le (ha:QE X a ma)(hb:QE X b mb):QT X (.Compare a [.LtE] [b] pos) (mTest (mOp leD ma mb)):=⟨pmt_cmp op_le intCmp_ok ha.h hb.h (nomark _)⟩
theorem t_gt (ha:QE X a ma)(hb:QE X b mb):QT X (.Compare a [.Gt] [b] pos) (mTest (mOp gtD ma mb)):=⟨pmt_cmp op_gt intCmp_ok ha.h hb.h (nomark _)⟩
theorem t_ge (ha:QE X a ma)(hb:QE X b mb):QT X (.Compare a [.GtE] [b] pos) (mTest (mOp geD ma mb)):=⟨pmt_cmp op_ge intCmp_ok ha.h hb.h (nomark _)⟩
noncomputable def plainT:Expr->Bool
 | .UnaryOp .Not ..=>false
 | .BoolOp ..=>false
 | .IfExp ..=>false
 | .Compare ..=>false
 | _=>true
theorem plain_t {e:Expr}{env:Env}(h:plainT e=true):∀ whole,isTrue e env whole=(do let v <- whole;standAt e.pos;holding [v] (truthy v)):=by
 intro whole
 cases e<;>first|rfl|cases h|skip
 rename_i op x p
 cases op<;>first|rfl|cases h
theorem t_not (ha:QT X a mt):QT X (.UnaryOp .Not a pos) (mNotT mt):=⟨pmt_not ha.h⟩
theorem w_and1 (ha:QT X a mt):QW X (.BoolOp .And [a] pos) mt:=⟨pmw_and1 ha.h⟩
theorem w_or1 (ha:QT X a mt):QW X (.BoolOp .Or [a] pos) mt:=⟨pmw_or1 ha.h⟩
theorem w_and (ha:QT X a mt)(hb:QW X (.BoolOp .And (b::rest) pos) mu):QW X (.BoolOp .And (a::b::rest) pos) (mAndT mt mu):=⟨pmw_and ha.h hb.h⟩
theorem w_or (ha:QT X a mt)(hb:QW X (.BoolOp .Or (b::rest) pos) mu):QW X (.BoolOp .Or (a::b::rest) pos) (mOrT mt mu):=⟨pmw_or ha.h hb.h⟩
theorem t_bool (h:QW X e mt):QT X e mt:=⟨h.h.pt⟩
theorem i_nil:QI X [] mTrue:=⟨pifs_nil⟩
theorem i_one (h:QT X c mt):QI X [c] mt:=⟨pifs_one h.h⟩
end
section
variable {X:Cx}{e a b c:Expr}{m:ME}{pos:Pos}{mt:MT}{st:Stmt}{rest body orelse:List Stmt}{ms mr mu:MS}{n:Nat}{is:List Nat}{es:List Expr}{g:MG}
theorem b_nil:QB X [] mNext:=⟨pmss_nil⟩
theorem b_cons (h1:QS X st ms)(h2:QB X rest mr):QB X (st::rest) (mSeq ms mr):=⟨pmss_cons h1.h h2.h⟩
theorem b_one (h1:QS X st ms):QB X [st] ms:=⟨pmss_one h1.h⟩
theorem s_pass:QS X (.Pass pos) mNext:=⟨pms_pass⟩
theorem s_ret (he:QE X e m):QS X (.Return (some e) pos) (mRet m):=⟨pms_ret he.h⟩
noncomputable def noComp:Expr->Bool
 | .ListComp ..=>false
 | .SetComp ..=>false
 | .DictComp ..=>false
 | _=>true
theorem swaps_of {e:Expr}{t:Option Expr}{n:Nat}{env:Env}(h:noComp e=true):swapsWith e t n env=pure false:=by
 cases e<;>first|rfl|cases h
theorem s_expr (he:QE X e m)(h:noComp e=true:=by rfl):QS X (.Expr e pos) (mDrop m):=⟨pms_expr he.h (swaps_of h)⟩
theorem s_if (hc:QT X c mt)(ha:QB X body ms)(hb:QB X orelse mu):QS X (.If c body orelse pos) (mIfS mt ms mu):=⟨pms_if hc.h ha.h hb.h⟩
theorem s_set (i:Nat){x:Str}{pos':Pos}(hN:X.N.Nodup)(he:QE X e m)(h:noComp e=true:=by rfl)(hi:X.N[i]? = some x:=by rfl)(hx:Loc X.env.scope x:=by first|exact Or.inl rfl|exact Or.inr rfl)
  (hf:X.fn x=true\/X.env.scope.names.lookup x=some .local:=by first|exact .inl rfl|exact .inr rfl):QS X (.Assign [.Name x pos'] e pos) (mSet i m):=⟨pms_set hN hi hx he.h (swaps_of h) hf⟩
theorem g_name (i:Nat){x:Str}(hN:X.N.Nodup)(hi:X.N[i]? = some x:=by rfl)(hx:Loc X.env.scope x:=by first|exact Or.inl rfl|exact Or.inr rfl)
  (hf:X.fn x=true\/X.env.scope.names.lookup x=some .local:=by first|exact .inl rfl|exact .inr rfl):QG X (.Name x pos) (gSet i):=⟨pmg_name hN hi hx hf⟩
theorem gs_nil:QGs X [] []:=⟨pgs_nil,rfl,rfl⟩
theorem gs_cons (i:Nat){x:Str}(hN:X.N.Nodup)(hr:QGs X es is)(hi:X.N[i]? = some x:=by rfl)(hx:Loc X.env.scope x:=by first|exact Or.inl rfl|exact Or.inr rfl)
  (hf:X.fn x=true\/X.env.scope.names.lookup x=some .local:=by first|exact .inl rfl|exact .inr rfl):QGs X (.Name x pos::es) (i::is):=
 ⟨pgs_cons (pg_name hN hi hx hf) hr.h (by rw [asg_cons (e:=.Name x pos) rfl];rfl),by rw [List.length_cons,List.length_cons,hr.n],by rw [List.all_cons,hr.s];rfl⟩
theorem g_tup {k:Nat}(h:QGs X es is)(hc:X.calm=true:=by rfl):QG X (.Tuple es k pos) (gTupD is):=⟨pmg_tup hc h.h ((asg_len h.s).trans h.n) (asg_star h.s)⟩
noncomputable def noTup:Expr->Bool
 | .Tuple ..=>false
 | _=>true
theorem swapped_of {tg e:Expr}{env:Env}(h:noTup e=true):swappedStores [tg] e env=pure none:=by
 cases e<;>first|(cases tg<;>rfl)|cases h
theorem s_unp {k:Nat}{pt:Pos}(he:QE X e m)(hg:QG X (.Tuple es k pt) g)(h:noTup e=true:=by rfl):QS X (.Assign [.Tuple es k pt] e pos) (mAsg m g):=
 ⟨pms_asg he.h hg.h (by cases e<;>rfl) (swapped_of h) (by rw [asg_cons (e:=.Tuple es k pt) rfl];rfl)⟩
end
section
variable {P:Program}{w:World}{K:PySem.W.Frag}{mg:Str->Option Value}{base:Heap}
theorem fn_okQ {x qual:Str}{st:Stmt}{f:Addr}{fd:FuncData}{N ps:List Str}{k:Nat}{body:List Stmt}{m:MS}(F:Fun K x qual st f fd)(S:FnScope N ps (defScope st))(hps:ps.length<=N.length)(hbd:defBody st=body)
  (hbody:∀ (cdv:Value)(A:Around)(outer:List Env)(s:Shared)(H:Hp)(E:XK),Room k (A.deeper (PyProof.Rows.envOfC qual (defScope st) s.heap.objs.size f cdv))->
   QB (cxOf CX0 P w K mg base N qual (defScope st) f cdv A outer s H E).nox body m):FnOk P w K mg base CX0 (k+1) f fd ps (spM K ps.length (runM N.length m)):=
 fn_ok F S hps fun cdv A outer s H E hr=>by
  rw [hbd]
  exact (hbody cdv A outer s H E hr).h
end
end L3
namespace L3
open PySem L2
noncomputable abbrev Src:=Hm->Nat->Option (Option D)
noncomputable abbrev MI:=Rho->Hm->Option (Src×Nat×Hm)
noncomputable def tMI (K:PySem.W.Frag)(m:MI):TI:=fun σ H R=>∃ π ρ μ src n μ',Rp K π H μ/\En K π μ.length H σ ρ/\m ρ μ=some (src,n,μ') /\
 ∀ π' H' J,Ext π μ.length H π' μ'.length H'->Rp K π' H' μ'->Wk K J src π' μ'.length H'->R J H'
structure QJ (X:Cx)(e:Expr)(m:MI):Prop where
 h:∀ tg,PI X tg e (tMI X.K m)
section
variable {X:Cx}{pos:Pos}{e:Expr}{m:ME}
noncomputable def iBad:MI:=fun _ _=>none
theorem j_bad:QJ X e iBad:=⟨fun tg pins s σ H R I hw=>by
 obtain ⟨π,ρ,μ,src,n,μ',Rr,E,hm,k⟩:=hw
 cases hm⟩
noncomputable def signs (x:Str):List D:=x.cps.toList.map fun c=>.str ⟨#[c]⟩
noncomputable def seqS (μ:Hm):D->Option (List D)
 | .str x=>some (signs x)
 | d=>seqD μ d
noncomputable def srcS (x:D):Src:=fun μ i=>(seqS μ x).map fun xs=>xs[i]?
noncomputable def Its (x:Str):It:=⟨fun i _=>i<x.cps.size,fun i H v H'=>H'=H/\∃ c,x.cps[i]? = some c/\v=.str ⟨#[c]⟩,fun i _=>x.cps.size<=i⟩
theorem turn_str {P:Program}{w:World}{K:PySem.W.Frag}{tg:Expr}{T:String}(hT:T = "str_ascii_iterator"\/T = "str_iterator") (it:Addr)(x:Str)(t:Tok):Turn P w K tg (Its x) [it] it (fun i h=>h.IsStrIter it T x t i) where
 mem:=by simp
 obj:=fun i h st b hb=>by
  have e:b=it:=by simpa using hb
  subst e
  obtain ⟨o,e,c,d⟩:=st
  exact ⟨o,e,fun v z=>by rw [d] at z;cases z⟩
 keep:=fun i h h' st k=>let ⟨o,e,c,d⟩:=st;⟨o,k it (by simp) o e,c,d⟩
 item:=by
  intro X hP hw hK hc i pins s σ H E I hf st hg
  subst hP hw hK
  obtain ⟨f0,f1,f2,f3,f4,f5⟩:=hf it (by simp)
  have W:Walks X.prog X.w X.A it [it] [it] x.cps.size (SignAt x) (fun i h=>h.IsStrIter it T x t i):=by
   rcases hT with rfl|rfl
   ·exact Walks.strAscii (I.ok.hd hc) it x t
   ·exact Walks.strWide (I.ok.hd hc) it x t
  refine W.item i s _ _ hg st fun v h' tk hv st' kk=>?_
  obtain ⟨c,u,hx,rfl⟩:=hv
  have I1:Inv X pins σ H { s with heap:=h',toks:=tk }:=I.turned (fun b o hb e=>kk b o (by simpa using hb) e) f0 f1 f3 f4 f5
  obtain ⟨o,e,c1,d⟩:=id st'
  exact ⟨_,rfl,go_of (s:={ s with heap:=h',toks:=tk }) e c1 d (by rcases hT with rfl|rfl<;>decide) ⟨.str ⟨#[c]⟩,H,I1,⟨u,rfl⟩,⟨rfl,c,hx,rfl⟩,st',fun b hb=>(hf b hb).1⟩⟩
 done:=by
  intro X hP hw hK hc i pins s σ H E I hf st hg
  subst hP hw hK
  obtain ⟨f0,f1,f2,f3,f4,f5⟩:=hf it (by simp)
  have hg':x.cps.size<=i:=hg
  rcases hT with rfl|rfl
  ·exact wpAny_pyNext_ascii_end (I.ok.hd hc) st (by simp [hg']) fun h' eb=>⟨rfl,I.turned (t':=s.toks) (fun b o hb e=>eb b o hb e) f0 f1 f3 f4 f5⟩
  ·exact wpAny_pyNext_wide_end (I.ok.hd hc) st (by simp [hg']) fun h' eb=>⟨rfl,I.turned (t':=s.toks) (fun b o hb e=>eb b o hb e) f0 f1 f3 f4 f5⟩
 self:=fun _ _ _ _ _ st h=>by
  rcases hT with rfl|rfl
  ·exact wpAny_pyIter_striter_ascii st h
  ·exact wpAny_pyIter_striter_wide st h
theorem pi_str {l tg:Expr}{tl:TE}(hl:PE X l tl):PI X tg l (fun σ H R=>tl σ H fun v H1=>∃ x,v=.str x/\R (Its x) H1):=by
 intro pins s σ H R I h
 refine thn (hl pins s σ H _ I h) fun v s1 ⟨y,H1,I1,r1,q1⟩=>?_
 obtain ⟨x,e,q⟩:=q1
 subst e
 obtain ⟨t,rfl⟩:=r1
 have fin:∀ T,(T = "str_ascii_iterator"\/T = "str_iterator")->PIE X pins σ tg R (.ref s1.heap.objs.size) { s1 with heap:=s1.heap.push { cls:=.type T,data:=.fields #[.str x t,.int 0 0] } }:=fun T hT=>by
  refine ⟨s1.heap.objs.size,[s1.heap.objs.size],_,_,H1,rfl,I1.kept (t':=s1.toks) fun b o e=>Heap.get?_push_of_some _ e,turn_str hT _ x t,⟨_,Heap.get?_push_size _ rfl,rfl,rfl⟩,fun b hb=>?_,q⟩
  have e:b=s1.heap.objs.size:=by simpa using hb
  subst e
  exact I1.fpOk (Nat.le_refl _) (I1.hok.fresh (Nat.le_refl _))
 cases ha:x.cps.all (·<128)
 ·exact wpAny_pyIter_wide ha (fin _ (.inr rfl))
 ·exact wpAny_pyIter_ascii ha (fin _ (.inl rfl))
theorem wk_str {K:PySem.W.Frag}{x:Str}{π:Nat->Addr}{n:Nat}{H:Hp}:Wk K (Its x) (srcS (.str x)) π n H:=by
 refine ⟨fun π' μ H' i e R z=>?_,fun π' μ H' i d e R z=>?_⟩
 ·have z':(signs x)[i]? = none:=Option.some.inj z
  have:=Zn.mp z'
  rw [signs,Zl,Array.length_toList] at this
  exact this
 ·have z':(signs x)[i]? = some d:=Option.some.inj z
  unfold signs at z'
  rw [List.getElem?_map,Array.getElem?_toList] at z'
  obtain ⟨c,h1,h2⟩:=Zm.mp z'
  subst h2
  refine ⟨(Array.getElem?_eq_some_iff.mp h1).1,fun v H2 ⟨e1,c',e2,e3⟩=>?_⟩
  subst e1
  rw [h1] at e2
  cases e2
  rw [e3]
  exact ⟨.refl,R,.str _⟩
noncomputable def iSeqD (m:ME):MI:=fun ρ μ=>(m ρ μ).bind fun p=>(seqS p.2 p.1).map fun xs=>(srcS p.1,xs.length+1,p.2)
theorem j_seq (h:QE X e m):QJ X e (iSeqD m):=⟨fun tg pins s σ H R I hw=>by
 obtain ⟨π,ρ,μ,src,n,μ',Rr,E,hm,k⟩:=hw
 obtain ⟨⟨x,μ1⟩,h1,hm⟩:=Zb.mp hm
 obtain ⟨xs,h2,hm⟩:=Zm.mp hm
 cases hm
 have key:∀ (hs:seqD μ1 x=some xs)(hx:srcS x=srcSeq x),wpAny (model X.prog X.w) X.A (eval e X.env) (fun v s1=>wpAny (model X.prog X.w) X.A (pyIter v) (PIE X pins σ tg R) X.xe s1) X.xe s:=fun hs hx=>by
  refine pi_seq h.h pins s σ H R I ⟨π,ρ,μ,x,_,Rr,E,h1,fun π1 v1 H1 e1 R1 i1=>?_⟩
  obtain ⟨a,e,q⟩:=wk_seq R1 i1 hs
  subst e
  refine ⟨a,rfl,?_⟩
  dsimp only at k
  rw [hx] at k
  rcases q with ⟨q1,W⟩|⟨q1,W⟩
  ·exact .inl ⟨q1,k π1 H1 _ e1 R1 W⟩
  ·exact .inr ⟨q1,k π1 H1 _ e1 R1 W⟩
 cases x with
 | str z=>
  refine pi_str h.h pins s σ H R I ⟨π,ρ,μ,.str z,_,Rr,E,h1,fun π1 v1 H1 e1 R1 i1=>?_⟩
  cases i1
  exact ⟨z,rfl,k π1 H1 _ e1 R1 wk_str⟩
 | _=>exact key h2 rfl⟩
noncomputable def iRng1D (ms:MA):MI:=fun ρ μ=>(ms ρ μ).bind fun p=>match p.1 with
 | [.int j]=>if -(2 ^ 62)<=j/\j<2 ^ 62 then some (srcRng 0 j.toNat,j.toNat+1,p.2) else none
 | _=>none
theorem j_range1 {a:Expr}{ms:MA}{n:Nat}{p:Pos}(hgl:Gl X "range") (hmg:X.mg "range" = none) (ha:QA X [a] ms n):QJ X (.Call (.Name "range" p) [a] [] pos) (iRng1D ms):=⟨fun tg pins s σ H R I hw=>by
 have hs:=ha.s
 rw [List.all_cons,Bool.and_eq_true] at hs
 obtain ⟨π,ρ,μ,src,n',μ',Rr,E,hm,k⟩:=hw
 obtain ⟨⟨x,μ1⟩,h1,hm⟩:=Zb.mp hm
 refine pi_range1 hgl hmg ha.h (star_cons hs.1) pins s σ H R I ⟨π,ρ,μ,x,μ1,Rr,E,h1,fun π1 vs H1 e1 R1 i1=>?_⟩
 dsimp only at hm
 split at hm
 ·rename_i j
  split at hm
  ·rename_i hb
   cases hm
   cases i1 with
   | cons i1 t1=>
    cases i1
    cases t1
    exact ⟨j,rfl,hb.1,hb.2,k π1 H1 _ e1 R1 wk_rng⟩
  ·cases hm
 ·cases hm⟩
noncomputable def iRng2D (ms:MA):MI:=fun ρ μ=>(ms ρ μ).bind fun p=>match p.1 with
 | [.int i,.int j]=>if -(2 ^ 62)<=i/\i<2 ^ 62/\-(2 ^ 62)<=j/\j<2 ^ 62 then some (srcRng i (j - i).toNat,(j - i).toNat+1,p.2) else none
 | _=>none
theorem j_range2 {a b:Expr}{ms:MA}{n:Nat}{p:Pos}(hgl:Gl X "range") (hmg:X.mg "range" = none) (ha:QA X [a,b] ms n):QJ X (.Call (.Name "range" p) [a,b] [] pos) (iRng2D ms):=⟨fun tg pins s σ H R I hw=>by
 have hs:=ha.s
 rw [List.all_cons,Bool.and_eq_true,List.all_cons,Bool.and_eq_true] at hs
 obtain ⟨π,ρ,μ,src,n',μ',Rr,E,hm,k⟩:=hw
 obtain ⟨⟨x,μ1⟩,h1,hm⟩:=Zb.mp hm
 refine pi_range2 hgl hmg ha.h (by rw [star_cons hs.1,star_cons hs.2.1];rfl) (by rw [star_cons hs.2.1];rfl) pins s σ H R I ⟨π,ρ,μ,x,μ1,Rr,E,h1,fun π1 vs H1 e1 R1 i1=>?_⟩
 dsimp only at hm
 split at hm
 ·rename_i i j
  split at hm
  ·rename_i hb
   cases hm
   cases i1 with
   | cons i1 t1=>
    cases i1
    cases t1 with
    | cons i2 t2=>
     cases i2
     cases t2
     exact ⟨i,j,rfl,hb,k π1 H1 _ e1 R1 wk_rng⟩
  ·cases hm
 ·cases hm⟩
noncomputable def mForI (it:MI)(g:MG)(b:MS):MS:=fun ρ μ=>(it ρ μ).bind fun p=>goFor p.1 g b p.2.1 0 ρ p.2.2
end
noncomputable def mCompG (bd:BD)(it:MI)(c:MT)(e:ME):ME:=fun ρ μ=>(it ρ μ).bind fun p=>
 (goCompG p.1 bd c e ρ p.2.2.length p.2.1 0 (p.2.2++[.lst []])).map fun μ'=>(.loc p.2.2.length,μ')
noncomputable abbrev mCompI (it:MI)(c:MT)(e:ME):ME:=mCompG bdOne it c e
noncomputable def gB (n:Nat)(bd:BD):MG:=fun d ρ μ=>(bd d μ).map fun x=>ρ.take n++x
theorem pgb_name {X:Cx}{n:Nat}{x:Str}{px:Pos}(hl:X.N.length=n+1)(h:PG X (.Name x px) (tMG X.K (gSet n))):PG X (.Name x px) (tMG X.K (gB n bdOne)):=by
 intro pins s σ H v u Q I r hw
 obtain ⟨π,ρ,μ,d,ρ',R,E,hd,hm,k⟩:=hw
 cases hm
 refine h pins s σ H v u Q I r ⟨π,ρ,μ,d,_,R,E,hd,rfl,fun σ' E'=>k σ' ?_⟩
 have hρ:ρ.length=n+1:=by rw [<- E.len,I.len,hl]
 have e:ρ.set n (some d)=ρ.take n++[some d]:=by
  rw [List.set_eq_take_append_cons_drop,if_pos (by omega),List.drop_of_length_le (by omega)]
 rw [e] at E'
 exact E'
theorem setAll_ext:∀ (xs:List D)(a b:Rho),b.length=xs.length->setAll (a++b) (List.range' a.length xs.length) xs=a++xs.map some
 | [],a,[],_=>by simp [setAll]
 | x::xs,a,y::b,h=>by
  have ih:=setAll_ext xs (a++[some x]) b (by simpa using h)
  rw [List.length_cons,List.range'_succ]
  show setAll ((a++y::b).set a.length (some x)) (List.range' (a.length+1) xs.length) xs=_
  rw [List.set_append_right _ _ (Nat.le_refl _),Nat.sub_self,List.set_cons_zero]
  rw [List.length_append,List.length_singleton] at ih
  rw [List.append_assoc,List.singleton_append] at ih
  rw [ih]
  simp
theorem pgb_tup {X:Cx}{n k:Nat}{tg:Expr}(hl:X.N.length=n+k)(h:PG X tg (tMG X.K (gTupD (List.range' n k)))):PG X tg (tMG X.K (gB n (bdTup k))):=by
 intro pins s σ H v u Q I r hw
 obtain ⟨π,ρ,μ,d,ρ',R,E,hd,hm,kk⟩:=hw
 obtain ⟨y,h1,h2⟩:=Zm.mp hm
 obtain ⟨xs,h3,h4⟩:=Zb.mp h1
 split at h4
 ·rename_i hx
  cases h4
  subst h2
  have hρ:ρ.length=n+k:=by rw [<- E.len,I.len,hl]
  refine h pins s σ H v u Q I r ⟨π,ρ,μ,d,setAll ρ (List.range' n k) xs,R,E,hd,(by simp only [gTupD,h3,Option.bind_some,List.length_range',if_pos hx]),fun σ' E'=>kk σ' ?_⟩
  have e:=setAll_ext xs (ρ.take n) (ρ.drop n) (by rw [List.length_drop];omega)
  rw [List.take_append_drop,List.length_take,Nat.min_eq_left (by omega),hx] at e
  rw [e] at E'
  exact E'
 ·cases h4
section
variable {X:Cx}{scope:Scope}{cl:List (Str×Addr)}{xs:List Str}{tg elt iter:Expr}{ifs:List Expr}{pos ppos:Pos}{mi:MI}{me:ME}{mc:MT}{bd:BD}
theorem en_none {K:PySem.W.Frag}{π:Nat->Addr}{n:Nat}{H:Hp}{σ:St}{ρ o:Rho}{k:Nat}(E:En K π n H σ (ρ++o))(ho:o.length=k):En K π n H σ (ρ++List.replicate k none):=by
 refine ⟨by rw [E.len,List.length_append,List.length_append,List.length_replicate,ho],fun i d q=>?_⟩
 by_cases hi:i<ρ.length
 ·rw [List.getElem?_append_left hi] at q
  exact E.get i d (by rw [List.getElem?_append_left hi];exact q)
 ·rw [List.getElem?_append_right (Nat.not_lt.mp hi),List.getElem?_replicate] at q
  split at q<;>cases q
theorem comp_core (O:CompOk X scope cl xs)(hcalm:X.calm=true)(hi:PI X tg iter (tMI X.K mi))(hb':∀ d μ z,bd d μ=some z->z.length=xs.length)(hg:∀ C s₀ H₀ fp,PG (compCx X scope cl C (hid xs X.N++xs) s₀ H₀ fp) tg (tMG X.K (gB X.N.length bd)))
  (hc:∀ C s₀ H₀ fp,PIfs (compCx X scope cl C (hid xs X.N++xs) s₀ H₀ fp) ifs mc)(he:∀ C s₀ H₀ fp,PE (compCx X scope cl C (hid xs X.N++xs) s₀ H₀ fp) elt (tM X.K me))
  (hs:∀ x,foldedSetIterable iter X.env x=pure x){use:Option (Value->Sem Unit)}{QQ:Value->Shared->Prop}{pins:List (Addr×Obj)}{s:Shared}{σ:St}{H:Hp}{π:Nat->Addr}{ρ:Rho}{μ μ':Hm}{d:D}
  (I:Inv X pins σ H s)(R:Rp X.K π H μ)(E:En X.K π μ.length H σ ρ)(hm:mCompG bd mi mc me ρ μ=some (d,μ'))
  (fin:∀ (p C:Addr)(π':Nat->Addr)(H':Hp)(s':Shared),Ext π μ.length H π' μ'.length H'->Rp X.K π' H' μ'->IsD X.K π' μ'.length H' (.ref p) d->(∃ m,s'.heap.Ns C m)->X.s₀.heap.objs.size<=C->C≠X.env.locals->H' C=none->
   (∀ y c,X.env.cells.lookup y=some c->c≠C)->(∀ q∈X.pn++pins,q.1≠C)->(∀ h',(∀ b o,b≠C->s'.heap.get? b=some o->h'.get? b=some o)->Inv X pins σ H' { s' with heap:=h' })->
   compPost (model X.prog X.w) X.A X.xe use QQ (.ref p) C (.ok .next) s') :
  wpAny (model X.prog X.w) X.A (comprehension (.ListComp elt [⟨tg,iter,ifs,0⟩] scope pos) scope X.env ppos (newList []) false (eval iter X.env) use) QQ X.xe s:=by
 obtain ⟨⟨src,nt,μ1⟩,h1,hm⟩:=Zb.mp hm
 obtain ⟨μ2,h3,hm⟩:=Zm.mp hm
 cases hm
 have hit:wpAny (model X.prog X.w) X.A (eval iter X.env) (fun v s1=>wpAny (model X.prog X.w) X.A (pyIter v) (PIE X pins σ tg fun J H1=>∃ π1,Ext π μ.length H π1 μ1.length H1/\Rp X.K π1 H1 μ1/\Wk X.K J src π1 μ1.length H1) X.xe s1) X.xe s:=
  hi pins s σ H _ I ⟨π,ρ,μ,src,nt,μ1,R,E,h1,fun π1 H1 J e1 R1 W=>⟨π1,e1,R1,W⟩⟩
 refine wpAny_comprehension_free rfl hs O.clos O.kind O.names (wpAny_mono hit (fun v s1 hv=>wpAny_mono hv (fun itv s2 h4=>?_) fun _ _ z=>z) fun _ _ z=>z)
 obtain ⟨it,fp,tn,J,H2,rfl,I2,T,st2,f2,π1,e1,R1,W⟩:=h4
 refine wpAny_newObj_type (wpAny_newFunctionEnv O.nocell (by intro y hy;simp at hy) (fun h₁ hns₁ hsb₁=>?_) O.kind)
 dsimp only at hns₁ hsb₁ ⊢
 have hfr:H2 s2.heap.objs.size=none:=I2.hok.fresh (Nat.le_refl _)
 have I3:Inv X pins σ (upd H2 s2.heap.objs.size (.lst [])) { s2 with heap:=s2.heap.push { cls:=.type "list",dict:=none,data:=.seq ([]:List Value).toArray } }:=
  I2.laid (t':=s2.toks) (fun b u e=>Heap.get?_push_of_some _ e) (Nat.le_refl _) ⟨Nat.zero_le _,[],0,.nil,Heap.get?_push_size _ rfl⟩
 obtain ⟨e2,R2,q2⟩:=R1.alloc (c:=.lst []) (o:=.lst []) hfr .nil
 generalize hs3:({ s2 with heap:=s2.heap.push { cls:=.type "list",dict:=none,data:=.seq ([]:List Value).toArray } }:Shared)=s3 at I3
 have hheap:s2.heap.push { cls:=.type "list",dict:=none,data:=.seq ([]:List Value).toArray } = s3.heap:=by rw [<- hs3]
 have e12:=e1.trans e2
 generalize hH3:upd H2 s2.heap.objs.size (.lst [])=H3 at I3 e2 R2 e12
 generalize hπ3:ext1 π1 μ1.length s2.heap.objs.size=π3 at e2 R2 q2 e12
 have hob:∀ b∈fp,∃ o,s3.heap.get? b=some o:=fun b hb=>by
  obtain ⟨o,ho,_⟩:=T.obj 0 _ st2 b hb
  exact ⟨o,by rw [<- hheap];exact Heap.get?_push_of_some _ ho⟩
 have f3:∀ b∈fp,FpOk X pins H3 b:=fun b hb=>by
  obtain ⟨o,ho,_⟩:=T.obj 0 _ st2 b hb
  refine ⟨?_,(f2 b hb).2⟩
  rw [<- hH3,upd_ne (Nat.ne_of_lt (Heap.lt_size ho))]
  exact (f2 b hb).1
 have st3:tn 0 s3.heap:=T.keep 0 _ _ st2 fun b hb o e=>by rw [<- hheap];exact Heap.get?_push_of_some _ e
 have hC:(s2.heap.push { cls:=.type "list",dict:=none,data:=.seq ([]:List Value).toArray }).objs.size=s3.heap.objs.size:=by rw [hheap]
 rw [hheap] at hns₁ hsb₁
 have hk1:∀ b o,s3.heap.get? b=some o->h₁.get? b=some o:=fun b o e=>hsb₁.extBut b o (Nat.ne_of_lt (Heap.lt_size e)) (Heap.get?_push_of_some _ e)
 have E3:En X.K π3 (μ1++[C.lst []]).length H3 (σ++List.replicate xs.length none) (ρ++List.replicate xs.length none):=by
  have E':=E.mono e12
  refine ⟨by rw [List.length_append,List.length_append,E'.len,List.length_replicate,List.length_replicate],fun i d' q=>?_⟩
  by_cases hi:i<ρ.length
  ·rw [List.getElem?_append_left hi] at q
   obtain ⟨v,h5,h6⟩:=E'.get i d' q
   exact ⟨v,by rw [List.getElem?_append_left (by rw [E'.len];exact hi)];exact h5,h6⟩
  ·rw [List.getElem?_append_right (Nat.not_lt.mp hi),List.getElem?_replicate] at q
   split at q<;>cases q
 have hlen:ρ.length=X.N.length:=by rw [<- E.len];exact I.len
 have stat:∀ {H':Hp}{pl:List (Addr×Obj)},(∀ b∈fp,H' b=none)->pl=[]->∀ b∈fp,FpOk (compCx X scope cl s3.heap.objs.size (hid xs X.N++xs) s3 H3 fp) pl H' b:=fun {H' pl} hn hpl b hb=>by
  obtain ⟨f0,f1,f2',f3',f4,f5⟩:=f3 b hb
  obtain ⟨o,ho⟩:=hob b hb
  refine ⟨hn b hb,Nat.ne_of_lt (Heap.lt_size ho),fun z=>?_,.inl hb,fun y c h=>f4 y c (O.sub y c h),fun p hp=>?_⟩
  ·rcases List.mem_cons.mp (I3.stkSub b z) with z|z
   ·exact f1 z
   ·exact f2' z
  ·subst hpl
   exact absurd (show p∈([]:List (Addr×Obj)) from hp) (by simp)
 have loop:∀ s4:Shared,(∃ tk,s4 = { s3 with heap:=h₁,toks:=tk })->
   codeAny (model X.prog X.w) X.A (.compLoop (.ListComp elt [⟨tg,iter,ifs,0⟩] scope pos) 0 (.ref it) (.ref s2.heap.objs.size) (compEnvC scope cl s3.heap.objs.size X.env))
    (compPost (model X.prog X.w) X.A X.xe use QQ (.ref s2.heap.objs.size) s3.heap.objs.size) s4:=by
  rintro s4 ⟨tk,rfl⟩
  have I4:=O.inv (tk:=tk) I3 f3 hob hns₁ hk1
  refine compLoop_own (fun n s'=>∃ i σ' H' π' μi o,Inv (compCx X scope cl s3.heap.objs.size (hid xs X.N++xs) s3 H3 fp) [] σ' H' s'/\tn i s'.heap/\(∀ b∈fp,H' b=none)/\Ext π3 (μ1++[C.lst []]).length H3 π' μi.length H'/\Rp X.K π' H' μi /\
   En X.K π' μi.length H' σ' (ρ++o)/\o.length=xs.length/\goCompG src bd mc me ρ μ1.length n i μi=some μ') ?_ nt
   ⟨0,_,H3,π3,μ1++[C.lst []],List.replicate xs.length none,I4,T.keep 0 _ _ st3 fun b hb o e=>hk1 b o e,fun b hb=>(f3 b hb).1,.refl,R2,E3,List.length_replicate,h3⟩
  rintro n s5 ⟨i,σ5,H5,π5,μ5,o5,I5,st5,fr5,e5,R5,E5,l5,g5⟩
  cases n with
  | zero=>cases g5
  | succ n=>
   obtain ⟨o,h6,h7⟩:=Zb.mp g5
   cases o with
   | none=>
    cases h7
    have stop:=W.stop π5 _ H5 i (e2.trans e5) R5 h6
    refine wpAny_mono (T.done (compCx X scope cl s3.heap.objs.size (hid xs X.N++xs) s3 H3 fp) rfl rfl rfl hcalm i [] s5 σ5 H5 (fun _ _=>False) I5 (stat fr5 rfl) st5 stop) (fun r s6 ⟨hr,I6⟩=>?_) fun _ _ z=>z
    subst hr
    obtain ⟨m6,hn6,_⟩:=id I6.loc
    have hp:π5 μ1.length=s2.heap.objs.size:=by rw [e5.pi μ1.length (by simp),q2]
    refine fin s2.heap.objs.size s3.heap.objs.size π5 H5 s6 (e12.trans e5) R5 ?_ ⟨m6,hn6⟩ I3.sz (Ne.symm (Nat.ne_of_lt I3.lt)) I6.free (fun y c hc z=>?_) (fun q hq z=>?_) fun h' hh=>CompOk.back I3 f3 I6 hh
    ·rw [<- hp]
     exact .loc (Nat.lt_of_lt_of_le (by simp) e5.le)
    ·obtain ⟨v,o,ho,_⟩:=I3.cell y c hc
     exact Nat.ne_of_lt (Heap.lt_size ho) z
    ·exact Nat.ne_of_lt (Heap.lt_size (I3.pin q hq).1) z
   | some d=>
    obtain ⟨z,hz,h7⟩:=Zb.mp h7
    obtain ⟨⟨b,μ6⟩,h8,h9⟩:=Zb.mp h7
    obtain ⟨g1,g2⟩:=W.go π5 μ5 H5 i d (e2.trans e5) R5 h6
    refine wpAny_mono (T.item (compCx X scope cl s3.heap.objs.size (hid xs X.N++xs) s3 H3 fp) rfl rfl rfl hcalm i [] s5 σ5 H5 (fun _ _=>False) I5 (stat fr5 rfl) st5 g1) (fun r s6 ⟨u,hr,h10⟩=>?_) fun _ _ z=>z
    subst hr
    refine wpAny_mono h10 (fun _ s7 ⟨v,H7,I7,r7,y7,st7,fr7⟩=>?_) fun _ _ z=>z
    obtain ⟨e7,R7,hd⟩:=g2 v H7 y7
    have I7':=I7.pinned (stat fr7 rfl) (T.obj _ _ st7)
    have e5:=e5.trans e7
    refine wpAny_mono (hg _ _ _ _ _ s7 σ5 H7 v u (fun σ' H'=>En X.K π5 μ5.length H7 σ' (ρ++z)/\H'=H7) I7' r7
     ⟨π5,ρ++List.replicate xs.length none,μ5,d,ρ++z,R7,en_none (E5.mono e7) l5,hd,(by
      show (bd d μ5).map (fun x=>(ρ++List.replicate xs.length none).take X.N.length++x)=_
      rw [hz,<- hlen,List.take_left]
      rfl),fun σ' E'=>⟨E',rfl⟩⟩) (fun _ s8 ⟨σ8,H8,I8,E8,z2⟩=>?_) fun _ _ z=>z
    subst z2
    have again:∀ {s9:Shared}{H9:Hp}{π9:Nat->Addr}{μ9:Hm},Inv (compCx X scope cl s3.heap.objs.size (hid xs X.N++xs) s3 H3 fp) ([]++pinsAt fp s7.heap) σ8 H9 s9->Ext π3 (μ1++[C.lst []]).length H3 π9 μ9.length H9->Rp X.K π9 H9 μ9->
      En X.K π9 μ9.length H9 σ8 (ρ++z)->goCompG src bd mc me ρ μ1.length n (i+1) μ9=some μ'->
      ∃ m,m<n+1/\∃ i σ' H' π' μi o,Inv (compCx X scope cl s3.heap.objs.size (hid xs X.N++xs) s3 H3 fp) [] σ' H' s9/\tn i s9.heap/\(∀ b∈fp,H' b=none)/\Ext π3 (μ1++[C.lst []]).length H3 π' μi.length H'/\Rp X.K π' H' μi /\
       En X.K π' μi.length H' σ' (ρ++o)/\o.length=xs.length/\goCompG src bd mc me ρ μ1.length m i μi=some μ':=fun {s9 H9 π9 μ9} I9 e9 R9 E9 g9=>by
     refine ⟨n,Nat.lt_succ_self _,i+1,_,H9,π9,μ9,z,I9.unpinned,T.keep _ _ _ st7 fun b hb o e=>(I9.pin (b,o) (List.mem_append_right _ (List.mem_append_right _ (mem_pinsAt hb e)))).1,fun b hb=>?_,e9,R9,E9,hb' _ _ _ hz,g9⟩
     obtain ⟨o,e,_⟩:=T.obj _ _ st7 b hb
     exact (I9.pin (b,o) (List.mem_append_right _ (List.mem_append_right _ (mem_pinsAt hb e)))).2.1
    refine wpAny_mono (hc _ _ _ _ _ s8 _ H8 (fun b' H'=>∃ π9,b'=b/\Ext π5 μ5.length H8 π9 μ6.length H'/\Rp X.K π9 H' μ6) I8 ⟨π5,_,μ5,b,μ6,R7,E8,h8,fun π9 H9 e9 R9=>⟨π9,rfl,e9,R9⟩⟩) (fun ok s9 ⟨H9,I9,π9,hb,e9,R9⟩=>?_) fun _ _ z=>z
    subst hb
    cases ok with
    | false=>
     rw [if_neg Bool.false_ne_true]
     exact again I9 (e5.trans e9) R9 (E8.mono e9) h9
    | true=>
     rw [if_pos rfl]
     obtain ⟨⟨dy,μ7⟩,h11,h12⟩:=Zb.mp h9
     obtain ⟨μ8,h13,h14⟩:=Zb.mp h12
     refine wpAny_mono (he _ _ _ _ _ s9 _ H9 (fun y H'=>∃ π10,Ext π9 μ6.length H9 π10 μ7.length H'/\Rp X.K π10 H' μ7/\IsD X.K π10 μ7.length H' y dy) I9 ⟨π9,_,μ6,dy,μ7,R9,E8.mono e9,h11,fun π10 y H10 e10 R10 i10=>⟨π10,e10,R10,i10⟩⟩)
      (fun u' s10 ⟨y,H10,I10,ry,π10,e10,R10,i10⟩=>?_) fun _ _ z=>z
     unfold appD at h13
     split at h13
     ·rename_i zs hz
      split at h13
      ·rename_i hl
       cases h13
       obtain ⟨vs,h15,h16⟩:=R10.lst _ zs hz
       have eall:=(e5.trans e9).trans e10
       have hp:π10 μ1.length=s2.heap.objs.size:=by rw [eall.pi μ1.length (by simp),q2]
       obtain ⟨e11,R11⟩:=R10.put (a:=μ1.length) (c:=.lst (zs++[dy])) (o:=.lst (vs++[y])) (Zg.mp hz).1 h15 (.inl ⟨vs,rfl⟩) (h16.append (.cons i10 .nil))
       rw [hp] at h15 e11 R11
       refine wpAny_mono (mt_append (X:=compCx X scope cl s3.heap.objs.size (hid xs X.N++xs) s3 H3 fp) _ s10 _ H10 (.ref s2.heap.objs.size) [y] (.ref s2.heap.objs.size) [u'] (fun _ H'=>H'=upd H10 s2.heap.objs.size (.lst (vs++[y]))) I10 rfl (.cons ry .nil)
        ⟨s2.heap.objs.size,vs,y,rfl,rfl,h15,by rw [h16.length];exact hl,rfl⟩) (fun _ s11 ⟨_,H11,I11,_,z⟩=>?_) fun _ _ z=>z
       subst z
       exact again I11 (eall.trans e11) R11 ((E8.mono (e9.trans e10)).mono e11) h14
      ·cases h13
     ·cases h13
 have l4:=loop { s3 with heap:=h₁,toks:=s2.toks+([]:List (Str×Value)).length } ⟨_,rfl⟩
 have hst4:tn 0 h₁:=T.keep 0 _ _ st3 fun b hb o e=>hk1 b o e
 subst hs3
 exact codeAny_compStart_list l4 (T.self _ 0 _ _ _ hst4 l4)
theorem pm_compI (O:CompOk X scope cl xs)(hcalm:X.calm=true)(hi:PI X tg iter (tMI X.K mi))(hb':∀ d μ z,bd d μ=some z->z.length=xs.length)(hg:∀ C s₀ H₀ fp,PG (compCx X scope cl C (hid xs X.N++xs) s₀ H₀ fp) tg (tMG X.K (gB X.N.length bd)))
  (hc:∀ C s₀ H₀ fp,PIfs (compCx X scope cl C (hid xs X.N++xs) s₀ H₀ fp) ifs mc)(he:∀ C s₀ H₀ fp,PE (compCx X scope cl C (hid xs X.N++xs) s₀ H₀ fp) elt (tM X.K me))
  (hs:∀ x,foldedSetIterable iter X.env x=pure x):PE X (.ListComp elt [⟨tg,iter,ifs,0⟩] scope pos) (tM X.K (mCompG bd mi mc me)):=by
 intro pins s σ H Q I hw
 obtain ⟨π,ρ,μ,d,μ',R,E,hm,k⟩:=hw
 rw [eval_ListComp]
 refine comp_core (use:=none) O hcalm hi hb' hg hc he hs I R E hm fun p C π' H' s' e1 R1 i1 hns hsz hne hfree hcel hpin back=>?_
 obtain ⟨m,hn⟩:=hns
 exact ⟨m,hn,fun h' sb=>⟨.ref p,H',back h' (fun b o hb e=>(sb.2 b hb).trans e),rfl,k π' _ H' e1 R1 i1⟩⟩
theorem pms_compSet {i:Nat}{y:Str}{py spos:Pos}(O:CompOk X scope cl xs)(hN:X.N.Nodup)(hcalm:X.calm=true)(hi:PI X tg iter (tMI X.K mi))(hb':∀ d μ z,bd d μ=some z->z.length=xs.length)(hg:∀ C s₀ H₀ fp,PG (compCx X scope cl C (hid xs X.N++xs) s₀ H₀ fp) tg (tMG X.K (gB X.N.length bd)))
  (hc:∀ C s₀ H₀ fp,PIfs (compCx X scope cl C (hid xs X.N++xs) s₀ H₀ fp) ifs mc)(he:∀ C s₀ H₀ fp,PE (compCx X scope cl C (hid xs X.N++xs) s₀ H₀ fp) elt (tM X.K me))
  (hs:∀ x,foldedSetIterable iter X.env x=pure x)(hy:X.N[i]? = some y)(hl:X.env.scope.names.lookup y=some .local)
  (hsw:swapsWith (.ListComp elt [⟨tg,iter,ifs,0⟩] scope pos) (some (.Name y py)) spos.line X.env=pure true) :
  PS X (.Assign [.Name y py] (.ListComp elt [⟨tg,iter,ifs,0⟩] scope pos) spos) (tMS X.K (mSet i (mCompG bd mi mc me))):=by
 intro pins s σ H EN I hw
 obtain ⟨π,ρ,μ,fl,ρ',μ',R,E,hm,k⟩:=hw
 obtain ⟨⟨d,μ1⟩,h1,hm⟩:=Zm.mp hm
 cases hm
 rw [exec_Assign_Name_used _ _ _ _ hsw]
 refine wpAny_bind (wpAny_standAt ?_)
 refine wpAny_bind (wpAny_bind ?_)
 refine comp_core (use:=some (assign (.Name y py) X.env)) (QQ:=fun _ s'=>wpAny (model X.prog X.w) X.A (pure ()) (fun _ s''=>wpAny (model X.prog X.w) X.A (pure Flow.next) (SP X pins EN) X.xe s'') X.xe s') O hcalm hi hb' hg hc he hs I R E h1 fun p C π' H' s' e1 R1 i1 hns hsz hne hfree hcel hpin back=>?_
 obtain ⟨m,hn⟩:=hns
 have I1:Inv X pins σ H' s':=back s'.heap fun b o _ e=>e
 show wpAny (model X.prog X.w) X.A (assign (.Name y py) X.env (.ref p)) _ X.xe s'
 refine wpAny_assign_Name ?_
 refine store_ok2 I1 hN hy (.inl hl) (show RelV (.ref p) (.ref p) from rfl) (fun s2 I2 ⟨a,sb,ha⟩=>?_) (.inr hl)
 have hCa:C≠a:=by
  rcases ha with rfl|ha
  ·exact hne
  ·exact Ne.symm (hcel _ _ ha)
 refine ⟨m,hn.sameBut sb hCa,fun h' sb'=>wpAny_pure (wpAny_pure ?_)⟩
 refine ⟨σ.set i (some (.ref p)),H',I2.turned (t':=s2.toks) (fun b o hb e=>(sb'.2 b hb).trans e) hfree hne (.inr hsz) hcel hpin,?_⟩
 exact k π' _ H' e1 R1 ((E.mono e1).set i1 i)
end
end L3
namespace L3
open PySem L2
noncomputable def mBad:ME:=fun _ _=>none
noncomputable def mBadT:MT:=fun _ _=>none
noncomputable def mBadS:MS:=fun _ _=>none
section
variable {X:Cx}{e a b c o:Expr}{m m1 m2 ma mb mc:ME}{pos:Pos}{mt mu:MT}{rest es:List Expr}{ms:MA}{n:Nat}
theorem e_bad:QE X e mBad:=⟨fun pins s σ H Q I h=>by
 obtain ⟨π,ρ,μ,d,μ',R,E,hm,k⟩:=h
 cases hm⟩
theorem t_bad:QT X e mBadT:=⟨fun pins s σ H Q I h=>by
 obtain ⟨π,ρ,μ,d,μ',R,E,hm,k⟩:=h
 cases hm⟩
theorem w_bad:QW X e mBadT:=⟨fun wh pins s σ H Q I h=>by
 obtain ⟨π,ρ,μ,d,μ',R,E,hm,k⟩:=h
 cases hm⟩
theorem s_bad {st:Stmt}:QS X st mBadS:=⟨fun pins s σ H D I h=>by
 obtain ⟨π,ρ,μ,fl,ρ',μ',R,E,hm,k⟩:=h
 cases hm⟩
theorem g_bad {g:MG}(hg:∀ d ρ μ,g d ρ μ=none):QG X e g:=⟨fun pins s σ H v u Q I r h=>by
 obtain ⟨π,ρ,μ,d,ρ',R,E,hd,hm,k⟩:=h
 rw [hg] at hm
 cases hm⟩
theorem e_alt (h1:QE X e m1)(h2:QE X e m2)(h:∀ ρ μ r,m ρ μ=some r->m1 ρ μ=some r\/m2 ρ μ=some r):QE X e m:=⟨fun pins s σ H Q I q=>by
 obtain ⟨π,ρ,μ,d,μ',R,E,hm,k⟩:=q
 rcases h ρ μ _ hm with z|z
 ·exact h1.h pins s σ H Q I ⟨π,ρ,μ,d,μ',R,E,z,k⟩
 ·exact h2.h pins s σ H Q I ⟨π,ρ,μ,d,μ',R,E,z,k⟩⟩
theorem t_alt {m m1 m2:MT}(h1:QT X e m1)(h2:QT X e m2)(h:∀ ρ μ r,m ρ μ=some r->m1 ρ μ=some r\/m2 ρ μ=some r):QT X e m:=⟨fun pins s σ H Q I q=>by
 obtain ⟨π,ρ,μ,d,μ',R,E,hm,k⟩:=q
 rcases h ρ μ _ hm with z|z
 ·exact h1.h pins s σ H Q I ⟨π,ρ,μ,d,μ',R,E,z,k⟩
 ·exact h2.h pins s σ H Q I ⟨π,ρ,μ,d,μ',R,E,z,k⟩⟩
theorem mOp_alt {f f1 f2:D->D->Hm->Option (D×Hm)}(h:∀ x y μ r,f x y μ=some r->f1 x y μ=some r\/f2 x y μ=some r) :
  ∀ ρ μ r,mOp f ma mb ρ μ=some r->mOp f1 ma mb ρ μ=some r\/mOp f2 ma mb ρ μ=some r:=by
 intro ρ μ r hm
 obtain ⟨p,h1,hm⟩:=Zb.mp hm
 obtain ⟨q,h2,hm⟩:=Zb.mp hm
 rcases h _ _ _ _ hm with z|z
 ·exact .inl (Zb.mpr ⟨p,h1,Zb.mpr ⟨q,h2,z⟩⟩)
 ·exact .inr (Zb.mpr ⟨p,h1,Zb.mpr ⟨q,h2,z⟩⟩)
theorem mTest_alt (h:∀ ρ μ r,m ρ μ=some r->m1 ρ μ=some r\/m2 ρ μ=some r):∀ ρ μ r,mTest m ρ μ=some r->mTest m1 ρ μ=some r\/mTest m2 ρ μ=some r:=by
 intro ρ μ r hm
 obtain ⟨p,h1,hm⟩:=Zb.mp hm
 rcases h _ _ _ h1 with z|z
 ·exact .inl (Zb.mpr ⟨p,z,hm⟩)
 ·exact .inr (Zb.mpr ⟨p,z,hm⟩)
noncomputable def intsD:List D->Option (List Int)
 | []=>some []
 | .int i::r=>(intsD r).map (i::·)
 | _=>none
noncomputable def keyT:D->Option (List Int)
 | .tup ds=>intsD ds
 | _=>none
noncomputable def valDT (kvs:List (List Int×D))(k:List Int):Option D:=(kvs.find? fun p=>decide (p.1=k)).map (·.2)
noncomputable def putDT (kvs:List (List Int×D))(k:List Int)(d:D):List (List Int×D):=if (valDT kvs k).isSome then kvs.map (fun p=>if p.1=k then (p.1,d) else p) else kvs++[(k,d)]
noncomputable def itD:D->D->Hm->Option (D×Hm):=fun x y μ=>match x with
 | .loc a=>match μ[a]? with
  | some (.dK kvs)=>(keyD y).bind fun k=>(valD kvs k).map fun d=>(d,μ)
  | some (.dT kvs)=>(keyT y).bind fun k=>(valDT kvs k).map fun d=>(d,μ)
  | _=>ixD x y μ
 | _=>ixD x y μ
structure TabOk (X:Cx)(x:Str)(kvs:List (Key×D)):Prop where
 ex:∃ (p:Addr)(vs:List (Key×V))(ws:List (Key×Value)),X.mg x=some (.ref p)/\(∀ h:Heap,X.K.In h->h.DictOf (mixKind X.prog X.w) p ws)/\KV vs ws/\∀ π n H,IsKs X.K π n H vs kvs
theorem k_free {pins:List (Addr×Obj)}{σ:St}{H:Hp}{s:Shared}(I:Inv X pins σ H s){p:Addr}{ob:Obj}(h:X.K.lookup p=some ob):H p=none:=(I.bs p ob (I.mod.kin p ob h)).2
theorem rp_cell {K:PySem.W.Frag}{π:Nat->Addr}{H:Hp}{μ:Hm}(R:Rp K π H μ){a':Nat}(ha:a'<μ.length):(∃ vs,H (π a')=some (.lst vs))\/(∃ vs,H (π a')=some (.dK vs))\/∃ φ,H (π a')=some (.ext φ):=by
 cases q:μ[a']? with
 | none=>exact absurd (Zn.mp q) (by omega)
 | some cl=>
  cases cl with
  | lst xs=>obtain ⟨vs,h,_⟩:=R.lst a' xs q;exact .inl ⟨vs,h⟩
  | dK xs=>obtain ⟨vs,h,_⟩:=R.dK a' xs q;exact .inr (.inl ⟨vs,h⟩)
  | st xs=>obtain ⟨vs,h,_⟩:=R.st a' xs q;exact .inr (.inr ⟨_,h⟩)
  | dT xs=>obtain ⟨vs,h,_⟩:=R.dT a' xs q;exact .inr (.inr ⟨_,h⟩)
section
variable {pins:List (Addr×Obj)}{σ:St}{H:Hp}{s:Shared}{π:Nat->Addr}{μ:Hm}
theorem tup_not_cell (I:Inv X pins σ H s)(R:Rp X.K π H μ){a':Nat}(ha:a'<μ.length){vs:List V}(h:SqT X.K H (π a') vs):False:=by
 have hc:=rp_cell R ha
 rcases h with h|h
 ·rcases h with h|⟨ob,h⟩<;>rcases hc with ⟨ws,z⟩|⟨ws,z⟩|⟨ws,z⟩<;>(rw [h] at z;cases z)
 ·obtain ⟨ob,its,n,hk,_⟩:=h
  have:=k_free I hk
  rcases hc with ⟨ws,z⟩|⟨ws,z⟩|⟨ws,z⟩<;>(rw [this] at z;cases z)
theorem rol_not_cell (I:Inv X pins σ H s)(R:Rp X.K π H μ){a':Nat}(ha:a'<μ.length){vs:List V}(h:RoL X.K H (π a') vs):False:=by
 have hc:=rp_cell R ha
 rcases h with ⟨ob,h⟩|h
 ·rcases hc with ⟨ws,z⟩|⟨ws,z⟩|⟨ws,z⟩<;>(rw [h] at z;cases z)
 ·obtain ⟨ob,its,n,hk,_⟩:=h
  have:=k_free I hk
  rcases hc with ⟨ws,z⟩|⟨ws,z⟩|⟨ws,z⟩<;>(rw [this] at z;cases z)
theorem tup_not_rol (I:Inv X pins σ H s){p:Addr}{vs ws:List V}(h:SqT X.K H p vs)(h':RoL X.K H p ws):False:=by
 obtain ⟨its,_,t,_⟩:=I.tuple h
 obtain ⟨its',_,l,_⟩:=I.list h'.sq
 exact absurd rfl (SeqAt.ne_of_list_tuple l.isList t)
mutual
theorem isD_uniq (I:Inv X pins σ H s)(R:Rp X.K π H μ){v:V}{d d':D}:IsD X.K π μ.length H v d->IsD X.K π μ.length H v d'->d=d'
 | .non,h'=>by cases h';rfl
 | .bl _,h'=>by cases h';rfl
 | .int _,h'=>by cases h';rfl
 | .str _,h'=>by cases h';rfl
 | .ty _,h'=>by cases h';rfl
 | .tup h t,h'=>by
  cases h' with
  | tup h2 t2=>
   have:=I.tuple_inj h h2
   subst this
   rw [isDs_uniq I R t t2]
  | rol h2 t2=>exact (tup_not_rol I h h2).elim
  | loc h2=>exact (tup_not_cell I R h2 h).elim
 | .rol h t,h'=>by
  cases h' with
  | tup h2 t2=>exact (tup_not_rol I h2 h).elim
  | rol h2 t2=>
   have:=I.list_inj h.sq h2.sq
   subst this
   rw [isDs_uniq I R t t2]
  | loc h2=>exact (rol_not_cell I R h2 h).elim
 | .loc (a:=a1) ha,h'=>by
  generalize hz:V.ref (π a1)=z at h'
  cases h' with
  | tup h2 t2=>cases hz;exact (tup_not_cell I R ha h2).elim
  | rol h2 t2=>cases hz;exact (rol_not_cell I R ha h2).elim
  | loc h2=>
   have:=R.inj _ _ ha h2 (V.ref.inj hz)
   rw [this]
  | _=>cases hz
theorem isDs_uniq (I:Inv X pins σ H s)(R:Rp X.K π H μ){vs:List V}{ds ds':List D}:IsDs X.K π μ.length H vs ds->IsDs X.K π μ.length H vs ds'->ds=ds'
 | .nil,h'=>by cases h';rfl
 | .cons h t,h'=>by
  cases h' with
  | cons h2 t2=>rw [isD_uniq I R h h2,isDs_uniq I R t t2]
end
end
noncomputable def memEq (μ:Hm)(x:D):List D->Option Bool
 | []=>some false
 | y::r=>(eqD 8 μ y x).bind fun b=>(memEq μ x r).map fun c=>b||c
noncomputable def inSeq (neg:Bool):D->D->Hm->Option (D×Hm):=fun x y μ=>(seqD μ y).bind fun ys=>(memEq μ x ys).map fun b=>(.bl (if neg then !b else b),μ)
noncomputable def rInD (K:PySem.W.Frag)(neg:Bool):R2:=fun x y H Q=>∃ π μ dx dy ys b,Rp K π H μ/\IsD K π μ.length H x dx/\IsD K π μ.length H y dy/\seqD μ dy=some ys/\memEq μ dx ys=some b/\Q (.bl (if neg then !b else b)) H
theorem inSeq_ok {K:PySem.W.Frag}{neg:Bool}:OpD K (inSeq neg) (rInD K neg):=by
 intro π H μ x y d μ' vx vy Q R ix iy hm k
 obtain ⟨ys,h1,hm⟩:=Zb.mp hm
 obtain ⟨b,h2,hm⟩:=Zm.mp hm
 cases hm
 exact ⟨π,_,x,y,ys,b,R,ix,iy,h1,h2,k π _ H .refl R (.bl _)⟩
theorem mem_ans {pins:List (Addr×Obj)}{σ:St}{H:Hp}{s:Shared}{π:Nat->Addr}{μ:Hm}(I:Inv X pins σ H s)(R:Rp X.K π H μ){A:Around}(hu:A.units+8<cLine){x:V}{v:Value}{dx:D}(rx:RelV x v)(ix:IsD X.K π μ.length H x dx) :
  ∀ {ys:List D}{vs:List V}{us:List Value}{b:Bool},IsDs X.K π μ.length H vs ys->Vals vs us->memEq μ dx ys=some b->
   ∃ g:Value->Bool,(∀ u∈us,SeqAt.EqAt A s u v (g u))/\us.any g=b:=by
 classical
 intro ys vs us b hi hv hm
 have each:∀ {ys:List D}{vs:List V}{us:List Value}{b:Bool},IsDs X.K π μ.length H vs ys->Vals vs us->memEq μ dx ys=some b->(∀ u∈us,∃ c,SeqAt.EqAt A s u v c/\∃ w dy,RelV w u/\IsD X.K π μ.length H w dy/\eqD 8 μ dy dx=some c):=by
  intro ys
  induction ys with
  | nil=>
   intro vs us b hi hv hm u hu'
   cases hi
   cases hv
   cases hu'
  | cons y ys ih=>
   intro vs us b hi hv hm u hu'
   cases hi with
   | cons h t=>
    cases hv with
    | cons r rt=>
     obtain ⟨c,h1,hm⟩:=Zb.mp hm
     obtain ⟨c2,h2,hm⟩:=Zm.mp hm
     rcases List.mem_cons.mp hu' with rfl|hu'
     ·exact ⟨c,eq_at I R 8 hu r rx h ix h1,_,_,r,h,h1⟩
     ·exact ih t rt h2 u hu'
 have ec:=each hi hv hm
 refine ⟨fun u=>if h:u∈us then Classical.choose (ec u h) else false,fun u hu'=>?_,?_⟩
 ·simp only [dif_pos hu']
  exact (Classical.choose_spec (ec u hu')).1
 ·have key:∀ u (h:u∈us) w dy c,RelV w u->IsD X.K π μ.length H w dy->eqD 8 μ dy dx=some c->Classical.choose (ec u h)=c:=by
   intro u h w dy c rw' iw ew
   obtain ⟨_,w2,dy2,r2,i2,e2⟩:=Classical.choose_spec (ec u h)
   have:w2=w:=r2.inj rw'
   subst this
   have:=isD_uniq I R i2 iw
   subst this
   rw [e2] at ew
   exact Option.some.inj ew
  have main:∀ {ys:List D}{vs:List V}{us':List Value}{b:Bool},(∀ u∈us',u∈us)->IsDs X.K π μ.length H vs ys->Vals vs us'->memEq μ dx ys=some b->us'.any (fun u=>if h:u∈us then Classical.choose (ec u h) else false)=b:=by
   intro ys
   induction ys with
   | nil=>
    intro vs us' b hs hi hv hm
    cases hi
    cases hv
    cases hm
    rfl
   | cons y ys ih=>
    intro vs us' b hs hi hv hm
    cases hi with
    | cons h t=>
     cases hv with
     | @cons _ u _ us2 r rt=>
      obtain ⟨c,h1,hm⟩:=Zb.mp hm
      obtain ⟨c2,h2,hm⟩:=Zm.mp hm
      have hu1:u∈us:=hs u (List.mem_cons_self ..)
      rw [List.any_cons,ih (fun z hz=>hs z (List.mem_cons_of_mem _ hz)) t rt h2,dif_pos hu1,key u hu1 _ _ c r h h1]
      exact hm
  exact main (fun _ h=>h) hi hv hm
theorem hu9 {k:Nat}{A:Around}(r:Room k A):A.units+9<cLine:=by have:=r.un;omega
theorem op_inD (hu:X.A.units+9<cLine):OpR X (compareOp .In) (rInD X.K false):=by
 intro pins s σ H x y v u Q I rx ry h
 obtain ⟨π,μ,dx,dy,ys,b,R,ix,iy,e1,e2,q⟩:=h
 obtain ⟨p,vs,rfl,hq,hd⟩:=seq_of R iy e1
 cases ry
 rcases hq with hq|hq
 ·obtain ⟨its,r,pl,hz⟩:=I.list hq
  obtain ⟨g,g1,g2⟩:=mem_ans I R (A:=X.A.in1) (by rw [in1_units];omega) rx ix hd r e2
  refine SeqAt.in_listAt g pl.isList (fun w hw=>g1 w (by simpa using hw)) ⟨.bl _,H,I,rfl,?_⟩
  rw [show its.toArray.any g=its.any g by simp,g2]
  exact q
 ·obtain ⟨its,r,pl,hz⟩:=I.tuple hq
  obtain ⟨g,g1,g2⟩:=mem_ans I R (A:=X.A.in1) (by rw [in1_units];omega) rx ix hd r e2
  refine SeqAt.in_tupleAt g pl (fun w hw=>g1 w (by simpa using hw)) ⟨.bl _,H,I,rfl,?_⟩
  rw [show its.toArray.any g=its.any g by simp,g2]
  exact q
theorem op_notInD (hu:X.A.units+9<cLine):OpR X (compareOp .NotIn) (rInD X.K true):=by
 intro pins s σ H x y v u Q I rx ry h
 obtain ⟨π,μ,dx,dy,ys,b,R,ix,iy,e1,e2,q⟩:=h
 obtain ⟨p,vs,rfl,hq,hd⟩:=seq_of R iy e1
 cases ry
 rcases hq with hq|hq
 ·obtain ⟨its,r,pl,hz⟩:=I.list hq
  obtain ⟨g,g1,g2⟩:=mem_ans I R (A:=X.A.in1) (by rw [in1_units];omega) rx ix hd r e2
  refine SeqAt.notIn_listAt g pl.isList (fun w hw=>g1 w (by simpa using hw)) ⟨.bl _,H,I,rfl,?_⟩
  rw [show its.toArray.any g=its.any g by simp,g2]
  exact q
 ·obtain ⟨its,r,pl,hz⟩:=I.tuple hq
  obtain ⟨g,g1,g2⟩:=mem_ans I R (A:=X.A.in1) (by rw [in1_units];omega) rx ix hd r e2
  refine SeqAt.notIn_tupleAt g pl (fun w hw=>g1 w (by simpa using hw)) ⟨.bl _,H,I,rfl,?_⟩
  rw [show its.toArray.any g=its.any g by simp,g2]
  exact q
noncomputable def inD (neg:Bool):D->D->Hm->Option (D×Hm)
 | .str i,.str j,μ=>some (.bl (if neg then !(!(Builtin.Str.occurrences j i 0 j.length 1).isEmpty) else !(Builtin.Str.occurrences j i 0 j.length 1).isEmpty),μ)
 | x,.loc a,μ=>match μ[a]? with
  | some (.dT kvs)=>(keyT x).map fun k=>(.bl (if neg then !(valDT kvs k).isSome else (valDT kvs k).isSome),μ)
  | _=>inSeq neg x (.loc a) μ
 | x,y,μ=>inSeq neg x y μ
noncomputable def notInStr:D->D->Hm->Option (D×Hm)
 | .str i,.str j,μ=>some (.bl (!(!(Builtin.Str.occurrences j i 0 j.length 1).isEmpty)),μ)
 | _,_,_=>none
theorem notInStr_ok {K:PySem.W.Frag}:OpD K notInStr (fun x y H Q=>∃ i j,x=.str i/\y=.str j/\Q (.bl (!(!(Builtin.Str.occurrences j i 0 j.length 1).isEmpty))) H):=by
 intro π H μ x y d μ' vx vy Q R ix iy hm k
 unfold notInStr at hm
 split at hm
 ·cases hm
  cases ix
  cases iy
  exact ⟨_,_,rfl,rfl,k π _ H .refl R (.bl _)⟩
 ·cases hm
noncomputable def isNon (neg:Bool):D->D->Hm->Option (D×Hm)
 | x,.non,μ=>some (.bl (match x with|.non=>!neg|_=>neg),μ)
 | _,_,_=>none
theorem isNon_ok {K:PySem.W.Frag}:OpD K (isNon false) (fun x y H Q=>y=.non/\Q (.bl (decide (x=.non))) H):=by
 intro π H μ x y d μ' vx vy Q R ix iy hm k
 unfold isNon at hm
 split at hm
 ·cases hm
  cases iy
  refine ⟨rfl,?_⟩
  cases ix<;>exact k π _ H .refl R (.bl _)
 ·cases hm
theorem isNotNon_ok {K:PySem.W.Frag}:OpD K (isNon true) (fun x y H Q=>y=.non/\Q (.bl (!decide (x=.non))) H):=by
 intro π H μ x y d μ' vx vy Q R ix iy hm k
 unfold isNon at hm
 split at hm
 ·cases hm
  cases iy
  refine ⟨rfl,?_⟩
  cases ix<;>exact k π _ H .refl R (.bl _)
 ·cases hm
theorem e_is (ha:QE X a ma)(hb:QE X b mb):QE X (.Compare a [.Is] [b] pos) (mOp (isNon false) ma mb):=⟨pm_cmp op_isN isNon_ok ha.h hb.h (nomark _)⟩
theorem e_isnot (ha:QE X a ma)(hb:QE X b mb):QE X (.Compare a [.IsNot] [b] pos) (mOp (isNon true) ma mb):=⟨pm_cmp op_notN isNotNon_ok ha.h hb.h (nomark _)⟩
theorem t_is (ha:QE X a ma)(hb:QE X b mb):QT X (.Compare a [.Is] [b] pos) (mTest (mOp (isNon false) ma mb)):=⟨pmt_cmp op_isN isNon_ok ha.h hb.h (nomark _)⟩
theorem t_isnot (ha:QE X a ma)(hb:QE X b mb):QT X (.Compare a [.IsNot] [b] pos) (mTest (mOp (isNon true) ma mb)):=⟨pmt_cmp op_notN isNotNon_ok ha.h hb.h (nomark _)⟩
end
end L3
namespace L3
open PySem L2
section
variable {X:Cx}{e a b c o:Expr}{m m1 m2 ma mb mc mo:ME}{pos apos cpos:Pos}{mt mu:MT}{rest es:List Expr}{ms:MA}{n:Nat}
noncomputable def isLst (μ:Hm):D->Bool
 | .rol _=>true
 | .loc a=>match μ[a]? with|some (.lst _)=>true|_=>false
 | _=>false
noncomputable def mMeth (f:D->List D->Hm->Option (D×Hm))(mo:ME)(ms:MA):ME:=fun ρ μ=>(mo ρ μ).bind fun p=>match isLst p.2 p.1 with
 | true=>(ms ρ p.2).bind fun q=>f p.1 q.1 q.2
 | false=>none
noncomputable def MtD (K:PySem.W.Frag)(f:D->List D->Hm->Option (D×Hm))(r:V->List V->Hp->VK->Prop):Prop:=
 ∀ π H μ x xs d μ' v vs Q,Rp K π H μ->IsD K π μ.length H v x->IsDs K π μ.length H vs xs->f x xs μ=some (d,μ')->KC K Q π μ.length H d μ'->r v vs H Q
theorem tyV_lst {K:PySem.W.Frag}{π:Nat->Addr}{H:Hp}{μ:Hm}{v:V}{x:D}(R:Rp K π H μ)(h:IsD K π μ.length H v x)(e:isLst μ x=true):tyV K "list" v H:=by
 cases h with
 | rol h t=>exact .inl ⟨rfl,_,h.sq⟩
 | @loc a ha=>
  simp only [isLst] at e
  split at e
  ·rename_i xs hx
   obtain ⟨vs,h1,_⟩:=R.lst a xs hx
   exact .inl ⟨rfl,vs,.of h1⟩
  ·cases e
 | _=>cases e
theorem mMeth_read {K:PySem.W.Frag}{f:D->List D->Hm->Option (D×Hm)}{r:V->List V->Hp->VK->Prop}(hf:MtD K f r):∀ σ H Q,tM K (mMeth f mo ms) σ H Q->tBM K "list" r (tM K mo) (tMA K ms) σ H Q:=by
 rintro σ H Q ⟨π,ρ,μ,d,μ',R,E,hm,k⟩
 obtain ⟨⟨x,μ1⟩,h1,hm⟩:=Zb.mp hm
 dsimp only at hm
 split at hm
 ·rename_i hl
  obtain ⟨⟨xs,μ2⟩,h2,hm⟩:=Zb.mp hm
  refine ⟨π,ρ,μ,x,μ1,R,E,h1,fun π1 v1 H1 e1 R1 i1=>⟨tyV_lst R1 i1 hl,π1,ρ,μ1,xs,μ2,R1,E.mono e1,h2,fun π2 vs H2 e2 R2 i2=>?_⟩⟩
  exact hf π2 H2 μ2 x xs d μ' v1 vs Q R2 (i1.mono e2) i2 hm (k.after (e1.trans e2))
 ·cases hm
theorem mMeth0_read {K:PySem.W.Frag}{f:D->List D->Hm->Option (D×Hm)}{r:V->List V->Hp->VK->Prop}(hf:MtD K f r):∀ σ H Q,tM K (mMeth f mo mNil) σ H Q->tBM0 K "list" r (tM K mo) σ H Q:=by
 rintro σ H Q ⟨π,ρ,μ,d,μ',R,E,hm,k⟩
 obtain ⟨⟨x,μ1⟩,h1,hm⟩:=Zb.mp hm
 dsimp only at hm
 split at hm
 ·rename_i hl
  obtain ⟨⟨xs,μ2⟩,h2,hm⟩:=Zb.mp hm
  cases h2
  refine ⟨π,ρ,μ,x,μ1,R,E,h1,fun π1 v1 H1 e1 R1 i1=>⟨tyV_lst R1 i1 hl,?_⟩⟩
  exact hf π1 H1 μ1 x [] d μ' v1 [] Q R1 i1 .nil hm (k.after e1)
 ·cases hm
noncomputable def noSup:Expr->Bool
 | .Call (.Name _ _) [] [] _=>false
 | _=>true
theorem base_of {o:Expr}{attr:Str}{env:Env}{whole:Sem Value}(h:noSup o=true):attributeBase o attr env whole=whole:=by
 cases o with
 | Call f args kws p=>
  cases f with
  | Name id q=>
   cases args with
   | nil=>
    cases kws with
    | nil=>cases h
    | cons _ _=>rfl
   | cons _ _=>rfl
  | _=>rfl
 | _=>rfl
theorem few_of {e:Expr}{es:List Expr}{env:Env}{cpos:Pos}(h:(e::es).all noStar=true)(hn:(e::es).length<30) :
  ((backTo cpos (starEach (e::es) env)).all (fun x=>!x.1)&&(backToKw cpos (keywordEach [] env)).all (fun x=>x.1.isSome)
   && decide ((e::es).length+([]:List Keyword).length+(if ([]:List Keyword).isEmpty then 0 else 1)<30))=true:=by
 have h1:(backTo cpos (starEach (e::es) env)).all (fun x=>!x.1)=true:=by
  have:=star_any (pos:=cpos) (env:=env) h
  rw [List.all_eq_not_any_not]
  simpa using this
 rw [h1]
 have h2:(e::es).length+([]:List Keyword).length+(if ([]:List Keyword).isEmpty then 0 else 1)<30:=by
  show (e::es).length+0+0<30
  omega
 rw [decide_eq_true h2]
 rfl
theorem e_meth {f:D->List D->Hm->Option (D×Hm)}{r:V->List V->Hp->VK->Prop}{name:Str}{id:String}(slot:Slot "list" name id) (hty:typeOf (.builtin id)=pure (.type "method_descriptor")) (hm:MtM X id r)(hf:MtD X.K f r)
  (ho:QE X o mo)(ha:QA X (e::es) ms n)(hs:noSup o=true)(hl:(apos.endLine == cpos.line)=true)(hn:(e::es).length<30):QE X (.Call (.Attribute o name apos) (e::es) [] cpos) (mMeth f mo ms):=by
 have hst:=ha.s
 have hst':=hst
 rw [List.all_cons,Bool.and_eq_true] at hst'
 exact ⟨pm_weak (pe_bm PySem.F.plainAttrs_list slot hty hm ho.h ha.h (base_of hs) (few_of hst hn) hl (star_cons hst'.1) (star_any hst'.2)) (mMeth_read hf)⟩
theorem e_meth0 {f:D->List D->Hm->Option (D×Hm)}{r:V->List V->Hp->VK->Prop}{name:Str}{id:String}(slot:Slot "list" name id) (hty:typeOf (.builtin id)=pure (.type "method_descriptor")) (hm:MtM X id r)(hf:MtD X.K f r)
  (ho:QE X o mo)(hs:noSup o=true)(hl:(apos.endLine == cpos.line)=true):QE X (.Call (.Attribute o name apos) [] [] cpos) (mMeth f mo mNil):=
 ⟨pm_weak (pe_bm0 PySem.F.plainAttrs_list slot hty hm ho.h (base_of hs) hl) (mMeth0_read hf)⟩
noncomputable def appendM:D->List D->Hm->Option (D×Hm)
 | .loc a,[y],μ=>(appD μ a y).map fun μ'=>(.non,μ')
 | _,_,_=>none
noncomputable def extendM:D->List D->Hm->Option (D×Hm)
 | .loc a,[.loc b],μ=>match μ[a]?,μ[b]? with
  | some (.lst xs),some (.lst ys)=>if xs.length+ys.length<=sizeLine then some (.non,μ.set a (.lst (xs++ys))) else none
  | _,_=>none
 | _,_,_=>none
noncomputable def clearM:D->List D->Hm->Option (D×Hm)
 | .loc a,[],μ=>match μ[a]? with
  | some (.lst _)=>some (.non,μ.set a (.lst []))
  | _=>none
 | _,_,_=>none
noncomputable def popM:D->List D->Hm->Option (D×Hm)
 | .loc a,[],μ=>match μ[a]? with
  | some (.lst xs)=>(xs[xs.length - 1]?).map fun y=>(y,μ.set a (.lst xs.dropLast))
  | _=>none
 | _,_,_=>none
noncomputable def reverseM:D->List D->Hm->Option (D×Hm)
 | .loc a,[],μ=>match μ[a]? with
  | some (.lst xs)=>some (.non,μ.set a (.lst xs.reverse))
  | _=>none
 | _,_,_=>none
theorem isDs_reverse {K:PySem.W.Frag}{π:Nat->Addr}{n:Nat}{H:Hp}{vs:List V}{ds:List D}(h:IsDs K π n H vs ds):IsDs K π n H vs.reverse ds.reverse:=by
 induction ds generalizing vs with
 | nil=>cases h;exact .nil
 | cons d ds ih=>
  cases h with
  | cons h t=>
   rw [List.reverse_cons,List.reverse_cons]
   exact (ih t).append (.cons h .nil)
theorem isDs_dropLast {K:PySem.W.Frag}{π:Nat->Addr}{n:Nat}{H:Hp}{vs:List V}{ds:List D}(h:IsDs K π n H vs ds):IsDs K π n H vs.dropLast ds.dropLast:=by
 rw [List.dropLast_eq_take,List.dropLast_eq_take,h.length]
 exact h.take _
theorem append_ok {K:PySem.W.Frag}:MtD K appendM rAppend:=by
 intro π H μ x xs d μ' v vs Q R ix ixs hm k
 unfold appendM at hm
 split at hm
 ·rename_i a y
  obtain ⟨μ1,h1,hm⟩:=Zm.mp hm
  cases hm
  unfold appD at h1
  split at h1
  ·rename_i zs hz
   split at h1
   ·rename_i hl
    cases h1
    obtain ⟨ws,h2,h3⟩:=R.lst a zs hz
    cases ix
    cases ixs with
    | cons iy it=>
     cases it
     obtain ⟨e1,R1⟩:=R.put (a:=a) (c:=.lst (zs++[y])) (o:=.lst (ws++[_])) (Zg.mp hz).1 h2 (.inl ⟨ws,rfl⟩) (h3.append (.cons iy .nil))
     exact ⟨_,ws,_,rfl,rfl,h2,by rw [h3.length];exact hl,k π _ _ e1 R1 .non⟩
   ·cases h1
  ·cases h1
 ·cases hm
theorem extend_ok {K:PySem.W.Frag}:MtD K extendM rExtend:=by
 intro π H μ x xs d μ' v vs Q R ix ixs hm k
 unfold extendM at hm
 split at hm
 ·rename_i a b
  split at hm
  ·rename_i zs ys hz hy
   split at hm
   ·rename_i hl
    cases hm
    obtain ⟨ws,h2,h3⟩:=R.lst a zs hz
    obtain ⟨us,h4,h5⟩:=R.lst b ys hy
    cases ix
    cases ixs with
    | cons iy it=>
     cases it
     cases iy
     obtain ⟨e1,R1⟩:=R.put (a:=a) (c:=.lst (zs++ys)) (o:=.lst (ws++us)) (Zg.mp hz).1 h2 (.inl ⟨ws,rfl⟩) (h3.append h5)
     exact ⟨_,_,ws,us,rfl,rfl,h2,h4,by rw [h3.length,h5.length];exact hl,k π _ _ e1 R1 .non⟩
   ·cases hm
  ·cases hm
 ·cases hm
theorem clear_ok {K:PySem.W.Frag}:MtD K clearM rClear:=by
 intro π H μ x xs d μ' v vs Q R ix ixs hm k
 unfold clearM at hm
 split at hm
 ·rename_i a
  split at hm
  ·rename_i zs hz
   cases hm
   obtain ⟨ws,h2,h3⟩:=R.lst a zs hz
   cases ix
   cases ixs
   obtain ⟨e1,R1⟩:=R.put (a:=a) (c:=.lst []) (o:=.lst []) (Zg.mp hz).1 h2 (.inl ⟨ws,rfl⟩) .nil
   exact ⟨_,ws,rfl,rfl,h2,k π _ _ e1 R1 .non⟩
  ·cases hm
 ·cases hm
theorem reverse_ok {K:PySem.W.Frag}:MtD K reverseM rReverse:=by
 intro π H μ x xs d μ' v vs Q R ix ixs hm k
 unfold reverseM at hm
 split at hm
 ·rename_i a
  split at hm
  ·rename_i zs hz
   cases hm
   obtain ⟨ws,h2,h3⟩:=R.lst a zs hz
   cases ix
   cases ixs
   obtain ⟨e1,R1⟩:=R.put (a:=a) (c:=.lst zs.reverse) (o:=.lst ws.reverse) (Zg.mp hz).1 h2 (.inl ⟨ws,rfl⟩) (isDs_reverse h3)
   exact ⟨_,ws,rfl,rfl,h2,k π _ _ e1 R1 .non⟩
  ·cases hm
 ·cases hm
theorem pop_ok {K:PySem.W.Frag}:MtD K popM rPop:=by
 intro π H μ x xs d μ' v vs Q R ix ixs hm k
 unfold popM at hm
 split at hm
 ·rename_i a
  split at hm
  ·rename_i zs hz
   obtain ⟨y,h1,hm⟩:=Zm.mp hm
   cases hm
   obtain ⟨ws,h2,h3⟩:=R.lst a zs hz
   cases ix
   cases ixs
   obtain ⟨w,h4,h5⟩:=h3.get h1
   obtain ⟨e1,R1⟩:=R.put (a:=a) (c:=.lst zs.dropLast) (o:=.lst ws.dropLast) (Zg.mp hz).1 h2 (.inl ⟨ws,rfl⟩) (isDs_dropLast h3)
   refine ⟨_,ws,w,rfl,rfl,h2,by rw [h3.length];exact h4,k π w _ e1 R1 (h5.mono e1)⟩
  ·cases hm
 ·cases hm
noncomputable def truD (μ:Hm):D->Option Bool
 | .non=>some false
 | .bl b=>some b
 | .int i=>some (i != 0)
 | .str z=>if z.length<=sizeLine then some ((z.length:Int) != 0) else none
 | .tup xs=>some (!xs.isEmpty)
 | .rol xs=>some (!xs.isEmpty)
 | .loc a=>match μ[a]? with|some (.lst xs)=>some (!xs.isEmpty)|some (.dK kvs)=>some (!kvs.isEmpty)|_=>none
 | .ty _=>none
theorem isEmpty_len {α β:Type}{xs:List α}{ys:List β}(h:xs.length=ys.length):xs.isEmpty=ys.isEmpty:=by
 cases xs<;>cases ys<;>first|rfl|cases h
theorem truD_ok {K:PySem.W.Frag}{π:Nat->Addr}{H:Hp}{μ:Hm}{v:V}{x:D}{b:Bool}(R:Rp K π H μ)(h:IsD K π μ.length H v x)(e:truD μ x=some b):TruV K v H b:=by
 cases h with
 | non=>cases e;rfl
 | bl c=>cases e;rfl
 | int i=>cases e;rfl
 | str z=>
  simp only [truD] at e
  split at e
  ·rename_i hl;cases e;exact ⟨hl,rfl⟩
  ·cases e
 | tup h t=>cases e;exact .inr (.inl ⟨_,h,by rw [isEmpty_len t.length]⟩)
 | rol h t=>cases e;exact .inl ⟨_,h.sq,by rw [isEmpty_len t.length]⟩
 | @loc a ha=>
  simp only [truD] at e
  split at e
  ·rename_i xs hx
   cases e
   obtain ⟨vs,h1,h2⟩:=R.lst a xs hx
   exact .inl ⟨vs,.of h1,by rw [isEmpty_len h2.length]⟩
  ·rename_i kvs hx
   cases e
   obtain ⟨vs,h1,h2,_⟩:=R.dK a kvs hx
   refine .inr (.inr ⟨vs,h1,?_⟩)
   have:=congrArg List.length h2
   rw [Zl,Zl] at this
   rw [isEmpty_len this]
  ·cases e
 | ty n=>cases e
noncomputable def mTru (m:ME):MT:=fun ρ μ=>(m ρ μ).bind fun p=>(truD p.2 p.1).map fun b=>(b,p.2)
theorem t_tru (h:QE X e m)(he:plainT e=true):QT X e (mTru m):=⟨pmt_weak (pt_truth h.h (plain_t he)) (by
 rintro σ H Q ⟨π,ρ,μ,b,μ',R,E,hm,k⟩
 obtain ⟨⟨x,μ1⟩,h1,hm⟩:=Zb.mp hm
 obtain ⟨b',h2,hm⟩:=Zm.mp hm
 cases hm
 exact ⟨π,ρ,μ,x,_,R,E,h1,fun π1 v1 H1 e1 R1 i1=>⟨_,truD_ok R1 i1 h2,k π1 H1 e1 R1⟩⟩)⟩
theorem e_call0 {k:Nat}{f:Addr}{fd:FuncData}{ps:List Str}{fm:MF}{x:Str}{p:Pos}(F:FnOk X.prog X.w X.K X.mg X.base CX0 k f fd ps (spM X.K 0 fm))(hr:Room k X.A)(hm:X.mg x=some (.ref f))
  (hk:PySem.W.keepIn X.K (.ref f)=true)(hb:Binds X.K fd ps [])(hg:Gl X x)(hdb:(x == ("__debug__":Str))=false):QE X (.Call (.Name x p) [] [] pos) (mCall fm mNil):=
 ⟨pm_weak (pe_call0 F hr hg hm hk hb .nil (E:=E0) pass0 hdb) (by
  rintro σ H Q ⟨π,ρ,μ,d,μ',R,E,hm,k⟩
  obtain ⟨⟨xs,μ1⟩,h1,hm⟩:=Zb.mp hm
  cases h1
  exact ⟨rfl,π,[],μ,d,μ',R,.nil,hm,k⟩)⟩
noncomputable def goWhile (c:MT)(b:MS):Nat->MS
 | 0,_,_=>none
 | n+1,ρ,μ=>(c ρ μ).bind fun p=>match p.1 with
  | false=>some (.nx,ρ,p.2)
  | true=>(b ρ p.2).bind fun q=>match q.1 with
   | .nx=>goWhile c b n q.2.1 q.2.2
   | .ct=>goWhile c b n q.2.1 q.2.2
   | .bk=>some (.nx,q.2.1,q.2.2)
   | .rt d=>some (.rt d,q.2.1,q.2.2)
noncomputable def mWhile (n:Nat)(c:MT)(b:MS):MS:=goWhile c b n
theorem s_while {body:List Stmt}{mb:MS}(n:Nat)(hc:QT X c mt)(hb:QB X body mb)(hp:PassesOwn (model X.prog X.w) X.A X.env X.xe):QS X (.While c body [] pos) (mWhile n mt mb):=⟨pms_weak (ps_while hp hc.h hb.h) (by
 rintro E σ H ⟨π,ρ,μ,fl,ρ',μ',R,EN,hm,k⟩
 have lift:∀ {π2:Nat->Addr}{n2:Nat}{H2:Hp}(e:Ext π μ.length H π2 n2 H2),FlOk X.K E π2 n2 H2 fl ρ' μ':=fun {π2 n2 H2} e=>by
  cases fl with
  | nx=>exact fun π3 σ3 H3 e3 R3 E3=>k π3 σ3 H3 (e.trans e3) R3 E3
  | bk=>exact fun π3 σ3 H3 e3 R3 E3=>k π3 σ3 H3 (e.trans e3) R3 E3
  | ct=>exact fun π3 σ3 H3 e3 R3 E3=>k π3 σ3 H3 (e.trans e3) R3 E3
  | rt d=>exact KC.after k e
 refine ⟨fun m σ' H'=>∃ π2 μ2 ρ2,Ext π μ.length H π2 μ2.length H'/\Rp X.K π2 H' μ2/\En X.K π2 μ2.length H' σ' ρ2/\goWhile mt mb m ρ2 μ2=some (fl,ρ',μ'),⟨n,π,μ,ρ,.refl,R,EN,hm⟩,?_⟩
 rintro m σ1 H1 ⟨π2,μ2,ρ2,e2,R2,E2,h2⟩
 cases m with
 | zero=>cases h2
 | succ m=>
  obtain ⟨⟨b,μ3⟩,h3,h4⟩:=Zb.mp h2
  refine ⟨π2,ρ2,μ2,b,μ3,R2,E2,h3,fun π3 H3 e3 R3=>?_⟩
  cases b with
  | false=>
   refine iteF ?_
   cases h4
   exact lift e2 π3 σ1 H3 e3 R3 (E2.mono e3)
  | true=>
   refine iteT ?_
   obtain ⟨⟨f4,ρ4,μ4⟩,h5,h6⟩:=Zb.mp h4
   refine ⟨fun σ' H'=>∃ π5 ρ5 μ5,Ext π μ.length H π5 μ5.length H'/\Rp X.K π5 H' μ5/\En X.K π5 μ5.length H' σ' ρ5/\goWhile mt mb m ρ5 μ5=some (fl,ρ',μ'),
    fun σ' H' ⟨π5,ρ5,μ5,a1,a2,a3,a4⟩=>⟨m,Nat.lt_succ_self _,π5,μ5,ρ5,a1,a2,a3,a4⟩,π3,ρ2,μ3,f4,ρ4,μ4,R3,E2.mono e3,h5,?_⟩
   cases f4 with
   | nx=>exact fun π5 σ5 H5 e5 R5 E5=>⟨π5,ρ4,μ4,(e2.trans e3).trans e5,R5,E5,h6⟩
   | ct=>exact fun π5 σ5 H5 e5 R5 E5=>⟨π5,ρ4,μ4,(e2.trans e3).trans e5,R5,E5,h6⟩
   | bk=>
    cases h6
    exact fun π5 σ5 H5 e5 R5 E5=>lift (e2.trans e3) π5 σ5 H5 e5 R5 E5
   | rt d'=>
    cases h6
    exact lift (e2.trans e3))⟩
theorem s_retN:QS X (.Return none pos) (mRet (mC .non)):=⟨pms_weak ps_retN (by
 rintro E σ H ⟨π,ρ,μ,fl,ρ',μ',R,EN,hm,k⟩
 cases hm
 exact k π .non H .refl R .non)⟩
end
end L3
namespace L3
open PySem L2
noncomputable def boolsD:List D->Option (List Bool)
 | []=>some []
 | .bl b::r=>(boolsD r).map (b::·)
 | _=>none
noncomputable def allM:MF:=fun ds μ=>match ds with
 | [x]=>(seqD μ x).bind fun xs=>(boolsD xs).map fun bs=>(.bl (bs.all id),μ)
 | _=>none
theorem bools_is {K:PySem.W.Frag}{π:Nat->Addr}{n:Nat}{H:Hp}:∀ {xs:List D}{vs:List V}{bs:List Bool},IsDs K π n H vs xs->boolsD xs=some bs->vs=bs.map V.bl
 | [],_,bs,h,e=>by cases h;cases e;rfl
 | x::xs,vs,bs,h,e=>by
  cases h with
  | cons h t=>
   cases x with
   | bl b=>
    obtain ⟨bs',h1,h2⟩:=Zm.mp e
    subst h2
    cases h
    rw [bools_is t h1]
    rfl
   | _=>cases e
noncomputable def rAllA (K:PySem.W.Frag)(g:List Bool->Bool):List V->Hp->VK->Prop:=fun xs H Q=>∃ p bs,xs=[.ref p]/\(SqL K H p (bs.map V.bl)\/SqT K H p (bs.map V.bl))/\Q (.bl (g bs)) H
theorem allA_ok {K:PySem.W.Frag}{g:List Bool->Bool}{f:MF}(hf:f=fun ds μ=>match ds with|[x]=>(seqD μ x).bind fun xs=>(boolsD xs).map fun bs=>(.bl (g bs),μ)|_=>none):CallD K f (rAllA K g):=by
 subst hf
 intro π H μ xs d μ' vs Q R i hm k
 dsimp only at hm
 split at hm
 ·obtain ⟨ys,h1,hm⟩:=Zb.mp hm
  obtain ⟨bs,h2,hm⟩:=Zm.mp hm
  cases hm
  cases i with
  | cons i t=>
   cases t
   obtain ⟨p,ws,rfl,q,hd⟩:=seq_of R i h1
   have:=bools_is hd h2
   subst this
   exact ⟨p,bs,rfl,q,k π _ H .refl R (.bl _)⟩
 ·cases hm
theorem range_all {bs:List Bool}{n:Nat}(hn:n=bs.length):(List.range n).all (fun i=>bs.getD i false)=bs.all id:=by
 subst hn
 induction bs with
 | nil=>rfl
 | cons b bs ih=>
  rw [List.length_cons,List.range_succ_eq_map,List.all_cons,List.all_map,List.all_cons,<- ih]
  rfl
section
variable {X:Cx}
theorem truth_bools {prog:Program}{w:World}{A:Around}{bs:List Bool}{its:List Value}(r:Vals (bs.map V.bl) its):TruthOf prog w A (fun i v=>its.toArray[i]? = some v) (fun i=>bs.getD i false):=by
 intro i v s Q E hP hQ
 have hP':its[i]? = some v:=by simpa using hP
 have hi:i<bs.length:=by
  have:=(Zg.mp hP').1
  have:=r.length
  rw [Zl] at this
  omega
 obtain ⟨u,h1,h2⟩:=r.get (i:=i) (x:=.bl bs[i]) (by rw [List.getElem?_map,List.getElem?_eq_getElem hi];rfl)
 rw [hP'] at h1
 cases h1
 cases h2
 have e:bs.getD i false=bs[i]:=by simp [List.getD,hi]
 dsimp only at hQ
 rw [e] at hQ
 exact wpAny_truthy_bool hQ
theorem call_allA (hc:X.calm=true):CallR X (.builtin "all") (rAllA X.K (·.all id)):=by
 intro pins s σ H xs us Q I r h
 obtain ⟨p,bs,rfl,hq,q⟩:=h
 obtain ⟨u,rfl,ru⟩:=vals1 r
 cases ru
 have hh:X.A.in1.handled=none:=I.ok.hd hc
 rcases hq with hq|hq
 ·obtain ⟨its,rv,pl,hz⟩:=I.list hq
  refine call_all_walk (wpAny_pyIter_list pl.isList ?_)
  have hne:p≠s.heap.objs.size:=by
   obtain ⟨o,ho,_⟩:=pl.isList
   exact Nat.ne_of_lt (Heap.lt_size ho)
  refine ⟨s.heap.objs.size,_,_,_,_,_,fun i=>bs.getD i false,rfl,Walks.list hh _ p hne its.toArray,⟨⟨_,Heap.get?_push_size _ rfl,rfl,rfl⟩,pl.isList.push _⟩,truth_bools rv,fun h' tk kp=>?_⟩
  have hlen:its.toArray.size=bs.length:=by rw [List.size_toArray,<- rv.length,Zl]
  refine ⟨.bl _,H,I.kept (t':=tk) fun b o e=>kp b o ?_ (Heap.get?_push_of_some _ e),rfl,?_⟩
  ·intro hb
   have:b=s.heap.objs.size:=by simpa using hb
   exact Nat.ne_of_lt (Heap.lt_size e) this
  ·rw [range_all hlen]
   exact q
 ·obtain ⟨its,rv,pl,hz⟩:=I.tuple hq
  refine call_all_walk (wpAny_pyIter_tuple (show s.heap.IsTuple p its.toArray from pl) ?_)
  have hne:p≠s.heap.objs.size:=by
   obtain ⟨o,ho,_⟩:=pl
   exact Nat.ne_of_lt (Heap.lt_size ho)
  refine ⟨s.heap.objs.size,_,_,_,_,_,fun i=>bs.getD i false,rfl,Walks.tuple hh _ p hne its.toArray,⟨⟨_,Heap.get?_push_size _ rfl,rfl,rfl⟩,PySem.Heap.IsTuple.push pl _⟩,truth_bools rv,fun h' tk kp=>?_⟩
  have hlen:its.toArray.size=bs.length:=by rw [List.size_toArray,<- rv.length,Zl]
  refine ⟨.bl _,H,I.kept (t':=tk) fun b o e=>kp b o ?_ (Heap.get?_push_of_some _ e),rfl,?_⟩
  ·intro hb
   have:b=s.heap.objs.size:=by simpa using hb
   exact Nat.ne_of_lt (Heap.lt_size e) this
  ·rw [range_all hlen]
   exact q
end
end L3
namespace L3
open PySem L2
open PyProof.Rows (IntsAre)
open PySem.W (KasT kas_asc kas_desc kas_tail3 kas_descPart kas_count kas_place kas_bin kas_sort kas_rev kas_ask)
noncomputable def kRun {α:Type}(ans:Nat->Nat->Bool):KasT α->α
 | .ret a=>a
 | .ask i j k=>kRun ans (k (ans i j))
noncomputable def InR {α:Type}(n:Nat)(R:α->Prop):KasT α->Prop
 | .ret a=>R a
 | .ask i j k=>i<n/\j<n/\∀ b,InR n R (k b)
theorem InR.bind {α β:Type}{n:Nat}{R:α->Prop}{R':β->Prop}{f:α->KasT β}(hf:∀ a,R a->InR n R' (f a)):∀ {t:KasT α},InR n R t->InR n R' (t.bind f)
 | .ret a,q=>hf a q
 | .ask i j k,q=>⟨q.1,q.2.1,fun b=>InR.bind hf (q.2.2 b)⟩
theorem kRun_wp {α:Type}{n:Nat}{R:α->Prop}{ans:Nat->Nat->Bool}{cmp:Nat->Nat->(Bool->Shared->Prop)->Shared->Prop}{s:Shared}(hc:∀ i j (C:Bool->Shared->Prop),i<n->j<n->C (ans i j) s->cmp i j C s){Q:α->Shared->Prop} :
  ∀ {t:KasT α},InR n R t->Q (kRun ans t) s->t.kasWp cmp Q s
 | .ret a,_,q=>q
 | .ask i j k,h,q=>hc i j _ h.1 h.2.1 (kRun_wp hc (h.2.2 _) q)
theorem kRun_R {α:Type}{n:Nat}{R:α->Prop}{ans:Nat->Nat->Bool}:∀ {t:KasT α},InR n R t->R (kRun ans t)
 | .ret a,q=>q
 | .ask i j k,h=>kRun_R (t:=k (ans i j)) (h.2.2 _)
section
variable {n:Nat}
noncomputable def IxOk (n:Nat)(p:Array Nat):Prop:=p.Perm (List.range n).toArray
theorem IxOk.lt {p:Array Nat}(h:IxOk n p)(h0:0<n)(i:Nat):p.getD i 0<n:=by
 by_cases hi:i<p.size
 ·have e:p.getD i 0=p[i]:=by simp [Array.getD,hi]
  rw [e]
  have hm:p[i]∈p:=Array.getElem_mem hi
  have hm2:p[i]∈(List.range n).toArray:=h.mem_iff.mp hm
  simpa using hm2
 ·have e:p.getD i 0=0:=by simp [Array.getD,hi]
  rw [e];exact h0
theorem IxOk.rev {p:Array Nat}(h:IxOk n p)(i j:Nat):IxOk n (kas_rev p i j):=(PyProof.Rows.mirror_perm _ _ _ _).trans h
theorem IxOk.bub {p:Array Nat}(h:IxOk n p)(i j:Nat):IxOk n (PyProof.Rows.bubble p i j):=(PyProof.Rows.bubble_perm _ _ _).trans h
theorem asc_in {p:Array Nat}(h:IxOk n p)(h0:0<n):∀ (f m:Nat),InR n (fun _=>True) (kas_asc p f m)
 | 0,m=>trivial
 | f+1,m=>⟨h.lt h0 _,h.lt h0 _,fun b=>by
   cases b with
   | true=>exact trivial
   | false=>exact asc_in h h0 f (m+1)⟩
theorem desc_in (h0:0<n):∀ (f:Nat)(p:Array Nat)(m q:Nat),IxOk n p->InR n (fun r=>IxOk n r.1) (kas_desc f p m q)
 | 0,p,m,q,h=>h
 | f+1,p,m,q,h=>⟨h.lt h0 _,h.lt h0 _,fun b=>by
   cases b with
   | true=>
    show InR n _ (if q>0 then kas_desc f (kas_rev p (m - (q+1)) m) (m+1) 0 else kas_desc f p (m+1) 0)
    split
    ·exact desc_in h0 f _ _ _ (h.rev _ _)
    ·exact desc_in h0 f _ _ _ h
   | false=>
    refine ⟨h.lt h0 _,h.lt h0 _,fun d=>?_⟩
    cases d with
    | true=>exact h
    | false=>exact desc_in h0 f _ _ _ h⟩
theorem tail3_in (h0:0<n){p:Array Nat}(h:IxOk n p)(a r:Nat):InR n (fun r=>IxOk n r.2) (kas_tail3 a r p):=
 by
 have h':IxOk n (kas_rev p 0 a):=h.rev 0 a
 unfold kas_tail3
 refine InR.bind (R:=fun _=>True) (fun m _=>?_) (asc_in h' h0 _ _)
 exact h'
theorem descPart_in (h0:0<n){p:Array Nat}(h:IxOk n p)(a r:Nat):InR n (fun r=>IxOk n r.2) (kas_descPart a r p):=
 InR.bind (fun q hq=>by
  show InR n _ (if q.2.2>0 then kas_tail3 q.2.1 r (kas_rev q.1 (q.2.1 - (q.2.2+1)) q.2.1) else kas_tail3 q.2.1 r q.1)
  split
  ·exact tail3_in h0 (hq.rev _ _) _ _
  ·exact tail3_in h0 hq _ _) (desc_in h0 _ _ _ _ h)
theorem count_in (h0:0<n){p:Array Nat}(h:IxOk n p)(r:Nat):InR n (fun r=>IxOk n r.2) (kas_count r p):=
 InR.bind (fun m _=>by
  show InR n _ (if (m == r)=true then KasT.ret (m,p) else if m>1 then KasT.ask (p.getD 0 0) (p.getD (m - 1) 0) (fun c=>if c=true then KasT.ret (m,p) else kas_descPart m r (kas_rev p 0 m)) else kas_descPart m r p)
  split
  ·exact h
  ·split
   ·refine ⟨h.lt h0 _,h.lt h0 _,fun b=>?_⟩
    cases b with
    | true=>exact h
    | false=>exact descPart_in h0 (h.rev _ _) _ _
   ·exact descPart_in h0 h _ _) (asc_in h h0 _ _)
theorem place_in {p:Array Nat}(h:IxOk n p)(h0:0<n)(k:Nat):∀ (f l r:Nat),InR n (fun _=>True) (kas_place p k f l r)
 | 0,l,r=>trivial
 | f+1,l,r=>by
  show InR n _ (if l >= r then KasT.ret l else KasT.ask (p.getD k 0) (p.getD ((l+r) / 2) 0) fun c=>if c=true then kas_place p k f l ((l+r) / 2) else kas_place p k f ((l+r) / 2+1) r)
  split
  ·exact trivial
  ·refine ⟨h.lt h0 _,h.lt h0 _,fun b=>?_⟩
   cases b with
   | true=>exact place_in h h0 k f _ _
   | false=>exact place_in h h0 k f _ _
theorem bin_in (h0:0<n):∀ (f:Nat)(p:Array Nat)(k:Nat),IxOk n p->InR n (IxOk n) (kas_bin f p k)
 | 0,p,k,h=>h
 | f+1,p,k,h=>InR.bind (fun l _=>bin_in h0 f _ _ (h.bub _ _)) (place_in h h0 k _ _ _)
theorem sort_in (h0:0<n):InR n (IxOk n) (kas_sort n):=
 InR.bind (fun r hr=>by
  show InR n _ (if r.1<n then kas_bin (n - max r.1 1) r.2 (max r.1 1) else KasT.ret r.2)
  split
  ·exact bin_in h0 _ _ _ hr
  ·exact hr) (count_in h0 (Array.Perm.refl _) n)
end
noncomputable def sortIx (lt:Nat->Nat->Bool)(n:Nat):List Nat:=(kRun lt (kas_sort n)).toList
theorem sortIx_perm (lt:Nat->Nat->Bool){n:Nat}(h0:0<n):(sortIx lt n).Perm (List.range n):=by
 have h:IxOk n (kRun lt (kas_sort n)):=kRun_R (sort_in h0)
 have:=Array.perm_iff_toList_perm.mp h
 simpa [sortIx] using this
section
variable {X:Cx}{pins:List (Addr×Obj)}{σ:St}{H:Hp}{s:Shared}
theorem objOk_there {P:Program}{w:World}{H:Hp}{h:Heap}{a:Addr}{o:HO}(x:ObjOk P w H h a o):∃ ob,h.get? a=some ob:=by
 cases o with
 | lst xs=>obtain ⟨_,_,_,_,e⟩:=x;exact ⟨_,e⟩
 | tup xs=>obtain ⟨_,_,_,ob,e,_⟩:=x;exact ⟨_,e⟩
 | dK kvs=>obtain ⟨_,_,_,_,o,_,_,e,_⟩:=x;exact ⟨_,e⟩
 | dT kvs=>obtain ⟨_,_,_,_,o,_,_,e,_⟩:=x;exact ⟨_,e⟩
 | set S n=>obtain ⟨o,_,_,_,e,_⟩:=x;exact ⟨_,e⟩
 | ins C dx fs=>obtain ⟨_,_,_,e,_⟩:=x;exact ⟨_,e⟩
 | own y=>exact x
 | xd fs=>obtain ⟨_,⟨_,_,_,e,_⟩,_⟩:=x;exact ⟨_,e⟩
 | rng lo hi=>obtain ⟨_,_,_,e⟩:=x;exact ⟨_,e⟩
 | frz ob u=>exact ⟨_,x.1⟩
 | tbl ps=>exact ⟨_,x⟩
 | met f y=>exact ⟨_,x⟩
 | ext φ=>exact x.2.1
theorem oneNew {h':Heap}{D:Addr}{o:HO}{t':Nat}{m:Str->Option Value}(I:Inv X pins σ H s)(hm:s.heap.Ns X.env.locals m)(keep:∀ b ob,b≠X.env.locals->s.heap.get? b=some ob->h'.get? b=some ob)(hL:h'.Ns X.env.locals m)
  (hD:s.heap.get? D=none)(new:ObjOk X.prog X.w (upd H D o) h' D o):Inv X pins σ (upd H D o) { s with heap:=h',toks:=t' }:=by
 have hn:H D=none:=by
  cases q:H D with
  | none=>rfl
  | some u=>
   obtain ⟨ob,e⟩:=objOk_there (I.hok D u q)
   rw [hD] at e;cases e
 have neL:∀ b u,H b=some u->b≠X.env.locals:=fun b u e z=>by rw [z,I.free] at e;cases e
 refine I.step (g':=s.gens) (d':=s.drawn) (ch:=[]) (fun _ z=>nomatch z) (fun b ob hb _ _ e _=>keep b ob hb e) (fun b ob hb _ _ e _=>⟨ob.slots,keep b ob hb e⟩) (fun b ob _ e n=>?_) (fun b ob _ e=>?_)
  (fun b xs e=>by rw [upd_ne (ne_of_none e hn)];exact e) (fun b ob u e=>by rw [upd_ne (ne_of_none e hn)];exact e) (fun b ps e=>⟨#[],by rw [upd_ne (ne_of_none e hn),e];simp⟩) (fun m' hm'=>?_) (fun b u e=>?_) I.bare
 ·have:b≠D:=fun z=>by rw [z,hD] at e;cases e
  rw [upd_ne this];exact n
 ·by_cases hb:b=X.env.locals
  ·obtain ⟨ob',_,_,e',_⟩:=hL
   exact ⟨ob',by rw [hb];exact e'⟩
  ·exact ⟨ob,keep b ob hb e⟩
 ·rw [hm'.eq_nsMap,<- hm.eq_nsMap]
  exact hL
 ·by_cases hb:b=D
  ·subst hb
   rw [upd_same] at e
   cases e
   exact new
  ·rw [upd_ne hb] at e
   refine (I.hok b u e).stay (fun c v hc q=>keep c v ?_ q) (fun c q=>by rw [upd_ne (ne_of_none q hn)];exact q) fun c xs q=>by rw [upd_ne (ne_of_none q hn)];exact q
   rcases hc with rfl|hc
   ·exact neL _ _ e
   ·exact neL _ _ hc
end
theorem lex_ints {prog:Program}{w:World}{A:Around}{s:Shared}{Q:Bool->Shared->Prop}:∀ {us vs:List Value}{ns ms:List Int}(i:Nat),IntsAre us ns->IntsAre vs ms->Q (HT.lexLt ns ms) s->
  PySem.W.KatLex prog w A true (decide (us.length<vs.length)) Q (us.zip vs) i s
 | _,_,_,_,i,.nil,.nil,h=>by exact h
 | _,_,_,_,i,.nil,.cons c u hv,h=>by
  show Q (decide (0<_+1)) s
  rw [decide_eq_true (Nat.succ_pos _)]
  exact h
 | _,_,_,_,i,.cons a t hu,.nil,h=>by
  show Q (decide (_+1<0)) s
  rw [decide_eq_false (Nat.not_lt_zero _)]
  exact h
 | _,_,_,_,i,.cons (vs:=us) (ns:=ns) a t hu,.cons (vs:=vs) (ns:=ms) c u hv,h=>by
  rw [HT.lexLt_cons] at h
  refine PySem.W.kat_cons (SeqAt.EqAt.int_int a t c u prog w _ _ ?_)
  by_cases e:a=c
  ·subst e
   rw [if_pos rfl] at h
   rw [beq_self_eq_true]
   refine PySem.W.kat_yes ?_
   have:=lex_ints (prog:=prog) (w:=w) (A:=A) (s:=s) (Q:=Q) (i+1) hu hv h
   have e2:decide ((Value.int a t::us).length<(Value.int a u::vs).length)=decide (us.length<vs.length):=by simp
   rw [e2]
   exact this
  ·rw [if_neg e] at h
   have e':(a == c)=false:=by simpa using e
   rw [e']
   refine PySem.W.kat_no ?_
   cases hi:(true&&i == 0) with
   | true=>exact PyProof.Rows.oneLt_int h
   | false=>exact PySem.W.kat_one _ _ (PyProof.Rows.lt_int h)
noncomputable abbrev TupsV (K:PySem.W.Frag)(H:Hp):List V->List (List Int)->Prop:=Paired fun v t=>∃ a,v=V.ref a/\SqT K H a (t.map V.int)
theorem TupsV.get {K:PySem.W.Frag}{H:Hp}:∀ {vs:List V}{ts:List (List Int)}{i:Nat},TupsV K H vs ts->i<vs.length->∃ a,vs[i]? = some (V.ref a)/\SqT K H a ((ts.getD i []).map V.int)
 | _,_,_,.nil,h=>by simp at h
 | _,_,0,.cons ⟨a,e,q⟩ _,_=>⟨a,by rw [e];rfl,q⟩
 | _,_,i+1,.cons _ t,h=>by
  obtain ⟨a,e,q⟩:=TupsV.get (i:=i) t (by simpa using h)
  exact ⟨a,by simpa using e,q⟩
section
open PyProof.Rows
variable {prog:Program}{w:World}{A:Around}{E:Value->Shared->Prop}{s:Shared}
theorem sort_few {c:Addr}{u:Value}{z:Nat}{R:Fin->Shared->Prop}(g:s.heap.get? c=some (seqObj "list" [u].toArray z)) (q:R (.done (.ret .none)) { s with heap:=sortedHeap s.heap c [u] [u].toArray }) :
  wpAny (model prog w) A (Builtin.«list.sort» ⟨[.ref c],[]⟩) R E s:=by
 rw [list_sort_plain]
 have lt:c<s.heap.objs.size:=Heap.lt_size g
 refine wpAny_bind (listItems_at g rfl (wpAny_bind (listUpdate_at g rfl ?_)))
 obtain ⟨y,g1⟩:∃ y,(s.heap.update c (Obj.mapSeq fun _=>#[])).get? c=some (seqObj "list" #[] y):=⟨_,get?_update_seq g _⟩
 refine wpAny_bind (seqEpoch_at g1 rfl (wpAny_bind (wpAny_newTuple (wpAny_bind (wpAny_newList (wpAny_holding ?_))))))
 have g6:(((s.heap.update c (Obj.mapSeq fun _=>#[])).push (seqObj "tuple" [u].toArray 0)).push (seqObj "list" #[] 0)).get? c=some (seqObj "list" #[] y):=
  Heap.get?_push_of_some _ (Heap.get?_push_of_some _ g1)
 show wpAny (model prog w) A _ R E ⟨((s.heap.update c (Obj.mapSeq fun _=>#[])).push (seqObj "tuple" [u].toArray 0)).push (seqObj "list" #[] 0),s.gens,s.drawn,s.toks,s.os⟩
 dsimp only
 have few:[u].toArray.size<2:=by simp
 rw [if_pos few,if_pos few]
 refine wpAny_bind (wpAny_pure ?_)
 rw [StateT.run_pure]
 refine wpAny_bind (wpAny_pure ?_)
 dsimp only
 have ez:Array.map (fun x=>x.2) (arrOf (SortSt.mk' general' (#[u].zip #[u]) #[] 7 none)) = #[u]:=by
  show Array.map (fun x=>x.2) (#[u].zip #[u]) = #[u]
  exact Array.ext (by simp) (fun i h1 h2=>by simp)
 refine wpAny_bind (seqEpoch_at g6 rfl (wpAny_bind (listUpdate_at g6 rfl ?_ (hsz2:=by rw [ez,sizeLine_eq];show 1<=_;decide))))
 rw [ez]
 simp only [bne_self_eq_false,Bool.false_eq_true,if_false]
 exact wpAny_pure q
theorem sorted_few {l:Addr}{u:Value}{Q:Value->Shared->Prop}(hl:s.heap.IsList l [u].toArray)(q:Q (.ref (s.heap.objs.size+1)) { s with heap:=sortedAll s.heap [u] [u].toArray }):wpAny (model prog w) A (call (.builtin "sorted") [.ref l]) Q E s:=by
 refine Calls.call_function_entry kind_sorted plain_sorted entry_sorted (args_sorted1 _) ?_
 unfold Builtin.«sorted»
 refine wpAny_bind (m:=checkCount "sorted" 1 1 _) (wpAny_pure (wpAny_bind (collect_list hl (wpAny_bind (wpAny_newList ?_)))))
 have z:((s.heap.push (seqObj "list" #[] 0)).update s.heap.objs.size (Obj.mapSeq (·++[u].toArray))).objs.size=s.heap.objs.size+1:=by rw [Heap.size_update,size_push']
 have g:(((s.heap.push (seqObj "list" #[] 0)).update s.heap.objs.size (Obj.mapSeq (·++[u].toArray))).push (seqObj "list" [u].toArray 0)).get? (s.heap.objs.size+1)=some (seqObj "list" [u].toArray 0):=z ▸ Heap.get?_push_size _ rfl
 show wpAny _ _ _ _ _ ⟨((s.heap.push (seqObj "list" #[] 0)).update s.heap.objs.size (Obj.mapSeq (·++[u].toArray))).push (seqObj "list" [u].toArray 0),s.gens,s.drawn,s.toks,s.os⟩
 rw [z]
 refine wpAny_bind (wpAny_holding (wpAny_call_entry slot_list_sort ⟨_,g,rfl⟩ entry_list_sort (sort_few g ⟨_,rfl,?_⟩) (args_list_sort _)))
 exact wpAny_pure ⟨_,rfl,q⟩
end
theorem sortIx_one (lt:Nat->Nat->Bool):sortIx lt 1=[0]:=rfl
section
variable {X:Cx}
theorem sort_1 {pins:List (Addr×Obj)}{s:Shared}{σ:St}{H:Hp}{q:Addr}{v:V}{Q:VK}(I:Inv X pins σ H s)(hq:SqL X.K H q [v])(k:∀ l,H l=none->Q (.ref l) (upd H l (.lst [v]))) :
  wpAny (model X.prog X.w) X.A (call (.builtin "sorted") [.ref q]) (EP X pins σ Q) X.xe s:=by
 obtain ⟨its,rv,pl,hz⟩:=I.list hq
 cases rv with
 | cons ru rt=>
  cases rt
  rename_i u
  refine sorted_few (u:=u) pl.isList ?_
  obtain ⟨e,he⟩:=PyProof.Rows.sortedAll_at s.heap [u] [u].toArray
  refine ⟨.ref (s.heap.objs.size+1),_,I.laid (t':=s.toks) (a:=s.heap.objs.size+1) (o:=.lst [v]) (fun b ob z=>PyProof.Rows.sortedAll_old z) (Nat.le_succ _) ?_,rfl,k _ (I.hok.fresh (Nat.le_succ _))⟩
  exact ⟨by rw [sizeLine_eq];show 1<=_;decide,[u],e,.cons ru .nil,he⟩
end
noncomputable def rSortT (K:PySem.W.Frag):List V->Hp->VK->Prop:=fun xs H Q=>∃ q ws ts,xs=[.ref q]/\SqL K H q ws/\TupsV K H ws ts/\1<=ws.length/\ws.length<64/\(∀ t∈ts,t≠[]) /\
 ∀ l,H l=none->Q (.ref l) (upd H l (.lst ((sortIx (fun i j=>HT.lexLt (ts.getD i []) (ts.getD j [])) ws.length).map fun i=>ws.getD i .non)))
theorem ints_of {ns:List Int}{us:List Value}(h:Vals (ns.map V.int) us):IntsAre us ns:=intsAre_of h
section
variable {X:Cx}
theorem call_sortT:CallR X (.builtin "sorted") (rSortT X.K):=by
 intro pins s σ H xs us Q I r h
 obtain ⟨q,ws,ts,rfl,hq,ht,h1,h64,hne,k⟩:=h
 obtain ⟨u,rfl,ru⟩:=vals1 r
 cases ru
 by_cases h2:ws.length<2
 ·obtain ⟨v,rfl⟩:=List.length_eq_one_iff.mp (by omega:ws.length=1)
  refine sort_1 I hq fun l hl=>?_
  have z:=k l hl
  rw [List.length_singleton,sortIx_one] at z
  exact z
 replace h2:2<=ws.length:=Nat.le_of_not_lt h2
 obtain ⟨its,rv,pl,hz⟩:=I.list hq
 obtain ⟨m,F⟩:=I.fr
 have hlen:=rv.length
 refine PySem.W.kat_sorted F (news_all (g:=X.base) (h:=s.heap) (L:=X.env.locals)) pl.isList (by omega) (by omega) fun D e1 h' F' N' hD=>?_
 have keep:∀ b ob,b≠X.env.locals->s.heap.get? b=some ob->h'.get? b=some ob:=fun b ob hb e=>by
  cases z:X.base.get? b with
  | some ob'=>
   have:=I.bk b ob' z
   rw [e] at this;cases this
   exact F'.keep b _ z
  | none=>exact (N' (b,ob) (List.mem_cons_of_mem _ (mem_allNews hb z e))).1
 have hDn:=N' (D,_) (List.mem_cons_self ..)
 have hDs:s.heap.get? D=none:=by
  cases z:s.heap.get? D with
  | none=>rfl
  | some ob=>exact absurd (hD (D,ob) (mem_allNews hDn.2.1 hDn.2.2 z)) (Nat.lt_irrefl _)
 have neL:∀ {a:Addr}{vs:List V},SqT X.K H a vs->a≠X.env.locals:=fun {a vs} hs z=>by
  subst z
  rcases hs with (hs|⟨ob,hs⟩)|⟨ob,_,_,hk,_⟩
  ·rw [I.free] at hs;cases hs
  ·rw [I.free] at hs;cases hs
  ·have h1:X.env.locals<X.base.objs.size:=Heap.lt_size (I.mod.kin _ _ hk)
   exact Nat.lt_irrefl _ (Nat.lt_of_lt_of_le h1 F.above)
  -- the tuples stand there still
 have tupAt:∀ {a:Addr}{t:List Int},SqT X.K H a (t.map V.int)->∃ (ob:Obj)(xs:List Value)(n:Nat),h'.get? a=some ob/\ob.cls=.type "tuple"/\ob.data=.seq xs.toArray n/\IntsAre xs t:=fun {a t} hs=>by
  obtain ⟨xs,rx,⟨ob,e,c,n,d⟩,_⟩:=I.tuple hs
  exact ⟨ob,xs,n,keep a ob (neL hs) e,c,d,ints_of rx⟩
 have tups:∀ {ws:List V}{its:List Value}{ts:List (List Int)},Vals ws its->TupsV X.K H ws ts->(∀ t∈ts,t≠[])->∃ fs:List Value,fs.length=its.length/\PySem.W.KatTups h' its fs/\∀ v∈fs,∃ i t,v=Value.int i t:=by
  intro ws its ts rv ht
  induction ht generalizing its with
  | nil=>intro _;cases rv;exact ⟨[],rfl,.nil,fun v hv=>nomatch hv⟩
  | @cons v t ws ts hv _ ih=>
   intro hne
   cases rv with
   | cons r1 r2=>
    obtain ⟨a,rfl,hs⟩:=hv
    cases r1
    obtain ⟨fs,h1,h3,h4⟩:=ih r2 fun t ht=>hne t (List.mem_cons_of_mem _ ht)
    obtain ⟨ob,xs,n,e,c,d,hi⟩:=tupAt hs
    cases hi with
    | nil=>exact absurd rfl (hne [] (List.mem_cons_self ..))
    | @cons i tk xs' ns' hi'=>
     refine ⟨Value.int i tk::fs,by simp [h1],.cons e c d (by simp) h3,fun v hv=>?_⟩
     rcases List.mem_cons.mp hv with rfl|hv
     ·exact ⟨i,tk,rfl⟩
     ·exact h4 v hv
 obtain ⟨fs,hf1,hf2,hf3⟩:=tups rv ht hne
 refine PySem.W.kat_kind (T:=.type "int") hf2 (by omega) (fun v hv=>?_) rfl ?_
 ·obtain ⟨i,t,rfl⟩:=hf3 v hv
  exact .now
 have htl:ts.length=ws.length:=ht.length.symm
 refine kRun_wp (n:=its.length) (ans:=fun i j=>HT.lexLt (ts.getD i []) (ts.getD j [])) (fun i j C hi hj hC=>?_) (sort_in (by omega)) ?_
 ·obtain ⟨a,ea,sa⟩:=ht.get (i:=i) (by omega)
  obtain ⟨b,eb,sb⟩:=ht.get (i:=j) (by omega)
  obtain ⟨ua,ha1,ha2⟩:=rv.get ea
  obtain ⟨ub,hb1,hb2⟩:=rv.get eb
  cases ha2
  cases hb2
  have ga:its.getD i Value.none=.ref a:=by simp [List.getD,ha1]
  have gb:its.getD j Value.none=.ref b:=by simp [List.getD,hb1]
  unfold kas_ask
  rw [ga,gb]
  obtain ⟨oa,xa,na,e1,_,d1,i1⟩:=tupAt sa
  obtain ⟨ob,xb,nb,e2,_,d2,i2⟩:=tupAt sb
  refine PySem.W.kat_lt e1 d1 e2 d2 ?_
  have:=lex_ints (prog:=X.prog) (w:=X.w) (A:=X.A.in1.in1) (s:={ s with heap:=h' }) (Q:=C) 0 i1 i2 hC
  exact this
 ·refine PySem.W.KasFin.intro F' N' (.head fun p hp=>Nat.ne_of_lt (hD p hp)) fun h'' c F'' N''=>?_
  have keep2:∀ b ob,b≠X.env.locals->s.heap.get? b=some ob->h''.get? b=some ob:=fun b ob hb e=>by
   cases z:X.base.get? b with
   | some ob'=>
    have:=I.bk b ob' z
    rw [e] at this;cases this
    exact F''.keep b _ z
   | none=>exact (N'' (b,ob) (List.mem_cons_of_mem _ (mem_allNews hb z e))).1
  have hnew:=(N'' (D,_) (List.mem_cons_self ..)).1
  rw [<- hlen] at hnew
  have hperm:=sortIx_perm (fun i j=>HT.lexLt (ts.getD i []) (ts.getD j [])) (n:=ws.length) (by omega)
  have hvals:Vals ((sortIx (fun i j=>HT.lexLt (ts.getD i []) (ts.getD j [])) ws.length).map fun i=>ws.getD i .non) ((sortIx (fun i j=>HT.lexLt (ts.getD i []) (ts.getD j [])) ws.length).map fun i=>its.getD i Value.none):=by
   have each:∀ l:List Nat,(∀ i∈l,i<ws.length)->Vals (l.map fun i=>ws.getD i .non) (l.map fun i=>its.getD i Value.none):=fun l=>by
    induction l with
    | nil=>intro _;exact .nil
    | cons i l ih=>
     intro hl
     refine .cons ?_ (ih fun j hj=>hl j (List.mem_cons_of_mem _ hj))
     have hi:=hl i (List.mem_cons_self ..)
     obtain ⟨u,g1,g2⟩:=rv.get (List.getElem?_eq_getElem hi)
     have e1:ws.getD i .non=ws[i]:=by simp [List.getD,hi]
     have e2:its.getD i Value.none=u:=by simp [List.getD,g1]
     show RelV (ws.getD i .non) (its.getD i Value.none)
     rw [e1,e2]
     exact g2
   exact each _ fun i hi=>by simpa using hperm.mem_iff.mp hi
  refine ⟨.ref D,_,oneNew (s:=s) (o:=.lst _) (t':=s.toks) I F.ns keep2 F''.ns hDs ⟨?_,_,_,hvals,hnew⟩,rfl,k D ?_⟩
  ·rw [Zl,hperm.length_eq,List.length_range]
   exact hz
  ·cases z:H D with
   | none=>rfl
   | some u=>
    obtain ⟨ob,e⟩:=objOk_there (I.hok D u z)
    rw [hDs] at e;cases e
end
end L3
namespace L3
open PySem PySem.Spec
namespace Tb
section
variable {prog:Program}{w:World}{A:Around}{E:Value->Shared->Prop}{s:Shared}
noncomputable abbrev IsT (prog:Program)(w:World)(h:Heap)(k:List Int)(b:Addr):Prop:=IsTupleKey (intKind prog w) h k b
end
section
variable {prog:Program}{w:World}{A:Around}{R:Result->Shared->Prop}{I:Addr}{fp wr:List Addr}{G:Array GenState->Array GenState->Prop}{n:Nat}{P:Nat->Value->Prop}{St:Nat->Shared->Prop}
end
section
variable {prog:Program}{w:World}{A:Around}{E:Value->Shared->Prop}{s:Shared}
noncomputable abbrev noSet (led:Bool):Obj:={ cls:=.type "set",dict:=none,data:=.set #[] 0 (.fresh 0 0 led) }
end
end Tb
end L3
namespace L3
open PySem L2
open PyProof.Rows (IntsAre)
noncomputable def keysT:List D->Option (List (List Int))
 | []=>some []
 | x::r=>(keyT x).bind fun k=>(keysT r).map (k::·)
theorem intsD_eq:∀ {ds:List D}{k:List Int},intsD ds=some k->ds=k.map D.int
 | [],k,h=>by cases h;rfl
 | d::ds,k,h=>by
  cases d with
  | int i=>
   obtain ⟨k',h1,h2⟩:=Zm.mp h
   subst h2
   rw [intsD_eq h1];rfl
  | _=>cases h
theorem keyT_eq {x:D}{k:List Int}(h:keyT x=some k):x=.tup (k.map D.int):=by
 cases x with
 | tup ds=>rw [intsD_eq h]
 | _=>cases h
theorem keysT_eq:∀ {xs:List D}{ks:List (List Int)},keysT xs=some ks->xs=ks.map fun k=>D.tup (k.map D.int)
 | [],ks,h=>by cases h;rfl
 | x::xs,ks,h=>by
  obtain ⟨k,h1,h⟩:=Zb.mp h
  obtain ⟨ks',h2,h3⟩:=Zm.mp h
  subst h3
  rw [keyT_eq h1,keysT_eq h2];rfl
noncomputable def lstD (μ:Hm):D->Option (List D)
 | .rol xs=>some xs
 | .loc a=>match μ[a]? with
  | some (.lst xs)=>some xs
  | _=>none
 | _=>none
section
variable {K:PySem.W.Frag}{π:Nat->Addr}{n:Nat}{H:Hp}{μ:Hm}
theorem lst_of {v:V}{x:D}{xs:List D}(R:Rp K π H μ)(h:IsD K π μ.length H v x)(e:lstD μ x=some xs):∃ p vs,v=.ref p/\SqL K H p vs/\IsDs K π μ.length H vs xs:=by
 cases h with
 | rol q t=>cases e;exact ⟨_,_,rfl,q.sq,t⟩
 | @loc a ha=>
  simp only [lstD] at e
  split at e
  ·rename_i ys hy
   cases e
   obtain ⟨vs,h3,h4⟩:=R.lst a xs hy
   exact ⟨_,vs,rfl,.of h3,h4⟩
  ·cases e
 | _=>cases e
theorem ints_of':∀ {vs:List V}{k:List Int},IsDs K π n H vs (k.map D.int)->vs=k.map V.int
 | _,[],h=>by cases h;rfl
 | _,i::k,h=>by
  cases h with
  | cons h t=>cases h;rw [ints_of' t];rfl
theorem isInts:∀ (k:List Int),IsDs K π n H (k.map V.int) (k.map D.int)
 | []=>.nil
 | i::k=>.cons (.int i) (isInts k)
end
theorem items_of {X:Cx}:∀ {k:List Int}{xs:List Value},Vals (k.map V.int) xs->ItemsAre (intKind X.prog X.w) k xs
 | [],_,h=>by cases h;exact .nil
 | i::k,_,h=>by
  cases h with
  | cons h t=>
   obtain ⟨tk,rfl⟩:=h
   exact .cons (intKind_is _ _ _ _) (items_of t)
section
variable {X:Cx}{pins:List (Addr×Obj)}{σ:St}{H:Hp}{s:Shared}
theorem isT_of (I:Inv X pins σ H s){b:Addr}{k:List Int}(h:SqT X.K H b (k.map V.int)):Tb.IsT X.prog X.w s.heap k b:=by
 obtain ⟨xs,rx,⟨ob,e,c,n,d⟩,_⟩:=I.tuple h
 exact ⟨ob,xs.toArray,n,e,c,d,by simpa using items_of rx⟩
theorem call_lenT:CallR X (.builtin "len") (fun xs H Q=>∃ a L,xs=[V.ref a]/\H a=some (SetT a L)/\Q (.int L.length) H):=by
 intro pins s σ H xs us Q I r h
 obtain ⟨a,L,rfl,ha,q⟩:=h
 obtain ⟨u,rfl,ru⟩:=vals1 r
 cases ru
 obtain ⟨⟨o,ho,led,es,ep,t,R,hex,hd,he,ok,hp,hnd,hm,hf5,hpl,hle⟩,_,_⟩:=I.hok a _ ha
 have hsz:es.size=L.length:=by
  have:=hp.length_eq
  simpa using this
 have hm5:t.mask<=511:=by rcases hm with h|h|h|h<;>omega
 refine call_len_set ho hex hd (Tb.fits_of ok he) (by rw [hsz];omega) ?_
 rw [hsz]
 exact ⟨.int L.length,H,I.tok _,⟨_,rfl⟩,q⟩
end
end L3
namespace L3
open PySem L2
noncomputable def ltK (ks:List (List Int)):Nat->Nat->Bool:=fun i j=>HT.lexLt (ks.getD i []) (ks.getD j [])
noncomputable def sortedM:MF:=fun ds μ=>match ds with
 | [x]=>(lstD μ x).bind fun xs=>(keysT xs).bind fun ks=>if 1<=ks.length/\ks.length<64/\∀ t∈ks,t≠[] then some (.loc μ.length,μ++[.lst ((sortIx (ltK ks) ks.length).map fun i=>xs.getD i .non)]) else none
 | _=>none
theorem tups_of {K:PySem.W.Frag}{π:Nat->Addr}{n:Nat}{H:Hp}:∀ {vs:List V}{ks:List (List Int)},IsDs K π n H vs (ks.map fun k=>D.tup (k.map D.int))->TupsV K H vs ks
 | _,[],h=>by cases h;exact .nil
 | _,k::ks,h=>by
  cases h with
  | cons h t=>
   cases h with
   | @tup p vs ds hq hd=>
    have:=ints_of' hd
    subst this
    exact .cons ⟨p,rfl,hq⟩ (tups_of t)
theorem isDs_getD {K:PySem.W.Frag}{π:Nat->Addr}{n:Nat}{H:Hp}:∀ {vs:List V}{xs:List D}(i:Nat),IsDs K π n H vs xs->IsD K π n H (vs.getD i .non) (xs.getD i .non)
 | _,_,i,.nil=>by simp;exact .non
 | _,_,0,.cons h _=>h
 | _,_,i+1,.cons _ t=>by simpa using isDs_getD i t
theorem isDs_pick {K:PySem.W.Frag}{π:Nat->Addr}{n:Nat}{H:Hp}{vs:List V}{xs:List D}(h:IsDs K π n H vs xs):∀ (l:List Nat),IsDs K π n H (l.map fun i=>vs.getD i .non) (l.map fun i=>xs.getD i .non)
 | []=>.nil
 | i::l=>.cons (isDs_getD i h) (isDs_pick h l)
theorem sortedM_ok {K:PySem.W.Frag}:CallD K sortedM (rSortT K):=by
 intro π H μ xs d μ' vs Q R i hm k
 unfold sortedM at hm
 split at hm
 ·obtain ⟨ys,h1,hm⟩:=Zb.mp hm
  obtain ⟨ks,h2,hm⟩:=Zb.mp hm
  split at hm
  ·rename_i hb
   cases hm
   cases i with
   | cons i t=>
    cases t
    obtain ⟨p,ws,rfl,q,hd⟩:=lst_of R i h1
    have hd':=hd
    rw [keysT_eq h2] at hd'
    have hl:ws.length=ks.length:=by
     have:=hd'.length
     rw [Zl] at this
     exact this
    refine ⟨p,ws,ks,rfl,q,tups_of hd',by omega,by omega,hb.2.2,fun l hl'=>?_⟩
    obtain ⟨e2,R2,_⟩:=R.alloc (c:=.lst ((sortIx (ltK ks) ks.length).map fun i=>ys.getD i .non)) (o:=.lst ((sortIx (fun i j=>HT.lexLt (ks.getD i []) (ks.getD j [])) ws.length).map fun i=>ws.getD i .non)) hl' (by
     show IsDs _ _ _ _ _ _
     rw [hl]
     exact isDs_pick hd _)
    exact k _ _ _ e2 R2 alloc_loc
  ·cases hm
 ·cases hm
end L3
namespace L3
open PySem L2
open PyProof.Rows (IntsAre Fr News seqObj)
section
variable {prog:Program}{w:World}{A:Around}{E:Value->Shared->Prop}{s:Shared}{h₀:Heap}{L:Addr}{m:Str->Option Value}{news:List (Addr×Obj)}
end
section
variable {X:Cx}{pins:List (Addr×Obj)}{σ:St}{H:Hp}{s:Shared}
end
end L3
namespace L3
open PySem L2
section
variable {X:Cx}{a b c:Expr}{ma mb mc:ME}{pos:Pos}
noncomputable def mChain (f g:D->D->Hm->Option (D×Hm))(a b c:ME):ME:=fun ρ μ=>(a ρ μ).bind fun p=>(b ρ p.2).bind fun q=>(f p.1 q.1 q.2).bind fun r=>match r.1 with
 | .bl true=>(c ρ r.2).bind fun t=>g q.1 t.1 t.2
 | .bl false=>some (.bl false,r.2)
 | _=>none
theorem mChain_read {f g:D->D->Hm->Option (D×Hm)}{r r':R2}{K:PySem.W.Frag}(hf:OpD K f r)(hg:OpD K g r'):∀ σ H Q,tM K (mChain f g ma mb mc) σ H Q->tChain r r' (tM K ma) (tM K mb) (tM K mc) σ H Q:=by
 rintro σ H Q ⟨π,ρ,μ,d,μ',R,E,hm,k⟩
 obtain ⟨⟨x,μ1⟩,h1,hm⟩:=Zb.mp hm
 obtain ⟨⟨y,μ2⟩,h2,hm⟩:=Zb.mp hm
 obtain ⟨⟨z,μ3⟩,h3,hm⟩:=Zb.mp hm
 refine ⟨π,ρ,μ,x,μ1,R,E,h1,fun π1 v1 H1 e1 R1 i1=>⟨π1,ρ,μ1,y,μ2,R1,E.mono e1,h2,fun π2 v2 H2 e2 R2 i2=>?_⟩⟩
 refine hf π2 H2 μ2 x y z μ3 v1 v2 _ R2 (i1.mono e2) i2 h3 fun π3 v3 H3 e3 R3 i3=>?_
 cases z with
 | bl bb=>
  cases i3
  refine ⟨bb,rfl,?_⟩
  cases bb with
  | true=>
   refine iteT ?_
   obtain ⟨⟨t,μ4⟩,h4,hm⟩:=Zb.mp hm
   exact ⟨π3,ρ,μ3,t,μ4,R3,((E.mono e1).mono e2).mono e3,h4,fun π4 v4 H4 e4 R4 i4=>hg π4 H4 μ4 y t d μ' v2 v4 Q R4 ((i2.mono e3).mono e4) i4 hm (k.after (((e1.trans e2).trans e3).trans e4))⟩
  | false=>
   refine iteF ?_
   cases hm
   exact k π3 _ H3 ((e1.trans e2).trans e3) R3 (.bl false)
 | _=>cases hm
noncomputable def cmpI:CmpOp->Option (Int->Int->Bool)
 | .Lt=>some fun i j=>decide (i<j)
 | .LtE=>some fun i j=>decide (i<=j)
 | .Gt=>some fun i j=>decide (j<i)
 | .GtE=>some fun i j=>decide (j<=i)
 | _=>none
theorem cmpI_ok {op:CmpOp}{p:Int->Int->Bool}(h:cmpI op=some p):OpR X (compareOp op) (rI0 fun i j=>.bl (p i j))/\(op=.Lt\/op=.LtE\/op=.Gt\/op=.GtE):=by
 cases op<;>first|(cases h;first|exact ⟨op_lt,by simp⟩|exact ⟨op_le,by simp⟩|exact ⟨op_gt,by simp⟩|exact ⟨op_ge,by simp⟩)|cases h
theorem marks_of {op op':CmpOp}(h':op'=.Lt\/op'=.LtE\/op'=.Gt\/op'=.GtE):lastMarks [op,op'] [b,c]=false:=by
 show behindInMarks op' c=false
 rcases h' with rfl|rfl|rfl|rfl<;>exact nomark _
theorem e_chain {op op':CmpOp}{p q:Int->Int->Bool}(h:cmpI op=some p)(h':cmpI op'=some q)(ha:QE X a ma)(hb:QE X b mb)(hc:QE X c mc):QE X (.Compare a [op,op'] [b,c] pos) (mChain (intCmp p) (intCmp q) ma mb mc):=
 ⟨pm_weak (pe_chain (cmpI_ok h).1 (cmpI_ok h').1 ha.h hb.h hc.h (marks_of (cmpI_ok (X:=X) h').2)) (mChain_read intCmp_ok intCmp_ok)⟩
theorem t_chain {op op':CmpOp}{p q:Int->Int->Bool}(h:cmpI op=some p)(h':cmpI op'=some q)(ha:QE X a ma)(hb:QE X b mb)(hc:QE X c mc):QT X (.Compare a [op,op'] [b,c] pos) (mTest (mChain (intCmp p) (intCmp q) ma mb mc)):=
 ⟨pmt_weak (pt_chain (cmpI_ok h).1 (cmpI_ok h').1 ha.h hb.h hc.h (marks_of (cmpI_ok (X:=X) h').2)) fun σ H Q h=>mChain_read intCmp_ok intCmp_ok σ H _ (mTest_read σ H Q h)⟩
noncomputable def isBl (neg:Bool):D->D->Hm->Option (D×Hm)
 | .bl b,.bl c,μ=>some (.bl (if neg then !(b == c) else b == c),μ)
 | .int _,.bl _,μ=>some (.bl neg,μ)
 | _,_,_=>none
noncomputable def isM (neg:Bool):D->D->Hm->Option (D×Hm):=fun x y μ=>match y with
 | .bl _=>isBl neg x y μ
 | _=>isNon neg x y μ
noncomputable def rIsB (neg:Bool):R2:=fun x y H Q=>∃ c,y=.bl c/\((∃ b,x=.bl b/\Q (.bl (if neg then !(b == c) else b == c)) H)\/((∃ i,x=.int i)/\Q (.bl neg) H))
theorem isBl_ok {K:PySem.W.Frag}{neg:Bool}:OpD K (isBl neg) (rIsB neg):=by
 intro π H μ x y d μ' vx vy Q R ix iy hm k
 unfold isBl at hm
 split at hm
 ·cases hm;cases ix;cases iy
  exact ⟨_,rfl,.inl ⟨_,rfl,k π _ H .refl R (.bl _)⟩⟩
 ·cases hm;cases ix;cases iy
  exact ⟨_,rfl,.inr ⟨⟨_,rfl⟩,k π _ H .refl R (.bl _)⟩⟩
 ·cases hm
theorem op_isB:OpR X (compareOp .Is) (rIsB false):=by
 intro pins s σ H x y v u Q I rx ry h
 obtain ⟨c,rfl,h⟩:=h
 cases ry
 rcases h with ⟨b,rfl,q⟩|⟨⟨i,rfl⟩,q⟩
 ·cases rx
  exact wpAny_pure (fin_bl I q (by cases b<;>cases c<;>rfl))
 ·obtain ⟨t,rfl⟩:=rx
  exact wpAny_pure (fin_bl I q rfl)
theorem op_isNB:OpR X (compareOp .IsNot) (rIsB true):=by
 intro pins s σ H x y v u Q I rx ry h
 obtain ⟨c,rfl,h⟩:=h
 cases ry
 rcases h with ⟨b,rfl,q⟩|⟨⟨i,rfl⟩,q⟩
 ·cases rx
  exact wpAny_pure (fin_bl I q (by cases b<;>cases c<;>rfl))
 ·obtain ⟨t,rfl⟩:=rx
  exact wpAny_pure (fin_bl I q rfl)
theorem isM_alt {neg:Bool}(x y:D)(μ:Hm)(r:D×Hm)(h:isM neg x y μ=some r):isBl neg x y μ=some r\/isNon neg x y μ=some r:=by
 unfold isM at h
 split at h
 ·exact .inl h
 ·exact .inr h
theorem e_isM (ha:QE X a ma)(hb:QE X b mb):QE X (.Compare a [.Is] [b] pos) (mOp (isM false) ma mb):=e_alt ⟨pm_cmp op_isB isBl_ok ha.h hb.h (nomark _)⟩ (e_is ha hb) (mOp_alt isM_alt)
theorem e_isnotM (ha:QE X a ma)(hb:QE X b mb):QE X (.Compare a [.IsNot] [b] pos) (mOp (isM true) ma mb):=e_alt ⟨pm_cmp op_isNB isBl_ok ha.h hb.h (nomark _)⟩ (e_isnot ha hb) (mOp_alt isM_alt)
theorem t_isM (ha:QE X a ma)(hb:QE X b mb):QT X (.Compare a [.Is] [b] pos) (mTest (mOp (isM false) ma mb)):=t_alt ⟨pmt_cmp op_isB isBl_ok ha.h hb.h (nomark _)⟩ (t_is ha hb) (mTest_alt (mOp_alt isM_alt))
theorem t_isnotM (ha:QE X a ma)(hb:QE X b mb):QT X (.Compare a [.IsNot] [b] pos) (mTest (mOp (isM true) ma mb)):=t_alt ⟨pmt_cmp op_isNB isBl_ok ha.h hb.h (nomark _)⟩ (t_isnot ha hb) (mTest_alt (mOp_alt isM_alt))
end
noncomputable def sumM:MF:=fun ds μ=>match ds with
 | [x]=>(seqD μ x).bind fun xs=>(intsD xs).map fun is=>(.int is.sum,μ)
 | _=>none
noncomputable def rSum (K:PySem.W.Frag):List V->Hp->VK->Prop:=fun xs H Q=>∃ (p:Addr)(is:List Int),xs=[.ref p]/\(SqL K H p (is.map V.int)\/SqT K H p (is.map V.int))/\Q (.int is.sum) H
theorem sumM_ok {K:PySem.W.Frag}:CallD K sumM (rSum K):=by
 intro π H μ xs d μ' vs Q R i hm k
 unfold sumM at hm
 split at hm
 ·obtain ⟨ys,h1,hm⟩:=Zb.mp hm
  obtain ⟨is,h2,hm⟩:=Zm.mp hm
  cases hm
  cases i with
  | cons i t=>
   cases t
   obtain ⟨p,ws,rfl,q,hd⟩:=seq_of R i h1
   rw [intsD_eq h2] at hd
   have:=ints_of' hd
   subst this
   exact ⟨p,is,rfl,q,k π _ H .refl R (.int _)⟩
 ·cases hm
theorem preSum_list (is:List Int):∀ n,n<=is.length->preSum (fun i=>is.getD i 0) n=(is.take n).sum
 | 0,_=>rfl
 | n+1,h=>by
  have ih:=preSum_list is n (by omega)
  have e:is.take (n+1)=is.take n++[is[n]]:=by rw [List.take_succ,List.getElem?_eq_getElem (by omega)];rfl
  show preSum (fun i=>is.getD i 0) n+is.getD n 0=_
  rw [ih,e,List.sum_append]
  simp [List.getD,List.getElem?_eq_getElem (show n<is.length by omega)]
section
variable {X:Cx}
theorem moved_kept {pins:List (Addr×Obj)}{σ:St}{H:Hp}{s s2 s':Shared}{wr:List Addr}(I:Inv X pins σ H s)(m:Moved wr (fun a b=>b=a) s2 s')(e2:∀ b o,s.heap.get? b=some o->s2.heap.get? b=some o)(hw:∀ b∈wr,s.heap.objs.size<=b)(hs:s2.gens=s.gens/\s2.drawn=s.drawn/\s2.os=s.os):Inv X pins σ H s':=by
 have hk:∀ b o,s.heap.get? b=some o->s'.heap.get? b=some o:=fun b o e=>m.heap b o (fun z=>absurd (Nat.lt_of_lt_of_le (Heap.lt_size e) (hw b z)) (Nat.lt_irrefl _)) (e2 b o e)
 have h1:s'.gens=s.gens:=m.gens.trans hs.1
 have h2:s'.drawn=s.drawn:=m.drawn.trans hs.2.1
 have h3:s'.os=s.os:=m.os.trans hs.2.2
 obtain ⟨h',g',d',t',o'⟩:=s'
 dsimp only at h1 h2 h3 hk
 subst h1 h2 h3
 exact I.kept (t':=t') hk
theorem ints_vals {is:List Int}{its:List Value}(r:Vals (is.map V.int) its){i:Nat}{v:Value}(h:its.toArray[i]? = some v):∃ t,v=.int (is.getD i 0) t:=by
 have h':its[i]? = some v:=by simpa using h
 have hi:i<is.length:=by
  have:=(Zg.mp h').1
  have:=r.length
  rw [Zl] at this
  omega
 obtain ⟨u,h1,h2⟩:=r.get (i:=i) (x:=.int is[i]) (by rw [List.getElem?_map,List.getElem?_eq_getElem hi];rfl)
 rw [h'] at h1
 cases h1
 obtain ⟨t,rfl⟩:=h2
 exact ⟨t,by simp [List.getD,hi]⟩
theorem call_sumA (hc:X.calm=true):CallR X (.builtin "sum") (rSum X.K):=by
 intro pins s σ H xs us Q I r h
 obtain ⟨p,is,rfl,hq,q⟩:=h
 obtain ⟨u,rfl,ru⟩:=vals1 r
 cases ru
 have hh:X.A.in1.handled=none:=I.ok.hd hc
 have fin:∀ its:List Value,Vals (is.map V.int) its->preSum (fun i=>is.getD i 0) its.toArray.size=is.sum:=fun its rv=>by
  have hlen:its.toArray.size=is.length:=by rw [List.size_toArray,<- rv.length,Zl]
  rw [hlen,preSum_list is _ (Nat.le_refl _),List.take_length]
 rcases hq with hq|hq
 ·obtain ⟨its,rv,pl,hz⟩:=I.list hq
  refine call_sum_walkAnyS (wpAny_pyIter_list pl.isList ?_)
  have hne:p≠s.heap.objs.size:=by
   obtain ⟨o,ho,_⟩:=pl.isList
   exact Nat.ne_of_lt (Heap.lt_size ho)
  refine ⟨s.heap.objs.size,_,_,_,_,_,_,fun i=>is.getD i 0,rfl,(Walks.list hh _ p hne its.toArray).toS,⟨⟨_,Heap.get?_push_size _ rfl,rfl,rfl⟩,pl.isList.push _⟩,?_,fun i v hv=>ints_vals rv hv,fun s' t' m=>?_⟩
  ·intro b hb
   show b<(s.heap.push _).objs.size
   rw [Heap.size_push]
   obtain ⟨o,ho,_⟩:=pl.isList
   have hp:=Heap.lt_size ho
   simp only [List.mem_cons,List.not_mem_nil,or_false] at hb
   rcases hb with rfl|rfl
   ·exact Nat.lt_succ_self _
   ·exact Nat.lt_succ_of_lt hp
  ·refine ⟨.int is.sum,H,moved_kept I m (fun b o e=>Heap.get?_push_of_some _ e) (fun b hb=>?_) ⟨rfl,rfl,rfl⟩,⟨t',?_⟩,q⟩
   ·have e:b=s.heap.objs.size:=by simpa using hb
    exact Nat.le_of_eq e.symm
   ·rw [fin its rv]
 ·obtain ⟨its,rv,pl,hz⟩:=I.tuple hq
  refine call_sum_walkAnyS (wpAny_pyIter_tuple (show s.heap.IsTuple p its.toArray from pl) ?_)
  have hne:p≠s.heap.objs.size:=by
   obtain ⟨o,ho,_⟩:=pl
   exact Nat.ne_of_lt (Heap.lt_size ho)
  refine ⟨s.heap.objs.size,_,_,_,_,_,_,fun i=>is.getD i 0,rfl,(Walks.tuple hh _ p hne its.toArray).toS,⟨⟨_,Heap.get?_push_size _ rfl,rfl,rfl⟩,PySem.Heap.IsTuple.push pl _⟩,?_,fun i v hv=>ints_vals rv hv,fun s' t' m=>?_⟩
  ·intro b hb
   show b<(s.heap.push _).objs.size
   rw [Heap.size_push]
   obtain ⟨o,ho,_⟩:=pl
   have hp:=Heap.lt_size ho
   simp only [List.mem_cons,List.not_mem_nil,or_false] at hb
   rcases hb with rfl|rfl
   ·exact Nat.lt_succ_self _
   ·exact Nat.lt_succ_of_lt hp
  ·refine ⟨.int is.sum,H,moved_kept I m (fun b o e=>Heap.get?_push_of_some _ e) (fun b hb=>?_) ⟨rfl,rfl,rfl⟩,⟨t',?_⟩,q⟩
   ·have e:b=s.heap.objs.size:=by simpa using hb
    exact Nat.le_of_eq e.symm
   ·rw [fin its rv]
end
noncomputable def pickS {α:Type}(xs:List α)(lo hi st:Option Int):List α:=(sliceRange (sliceBounds lo hi st xs.length).1 (sliceBounds lo hi st xs.length).2.1 (sliceBounds lo hi st xs.length).2.2).filterMap (xs[·]?)
noncomputable def mSliceS (a:ME)(lo hi st:MO):ME:=fun ρ μ=>(a ρ μ).bind fun p=>(lo ρ p.2).bind fun q=>(hi ρ q.2).bind fun r=>(st ρ r.2).bind fun t=>
 if t.1≠some 0 then (lstD t.2 p.1).bind fun xs=>if (pickS xs q.1 r.1 t.1).length<=sizeLine then some (.loc t.2.length,t.2++[.lst (pickS xs q.1 r.1 t.1)]) else none else none
theorem pick_is {K:PySem.W.Frag}{π:Nat->Addr}{n:Nat}{H:Hp}{vs:List V}{ds:List D}(h:IsDs K π n H vs ds)(lo hi st:Option Int):IsDs K π n H (pickS vs lo hi st) (pickS ds lo hi st):=by
 unfold pickS
 rw [h.length]
 generalize sliceRange _ _ _=l
 induction l with
 | nil=>exact .nil
 | cons i l ih=>
  rw [List.filterMap_cons,List.filterMap_cons]
  cases hi:ds[i]? with
  | none=>
   have:vs[i]? = none:=by
    rw [Zn] at hi ⊢
    rw [h.length];exact hi
   rw [this]
   exact ih
  | some d=>
   obtain ⟨v,h1,h2⟩:=h.get hi
   rw [h1]
   exact .cons h2 ih
theorem pick_vals {vs:List V}{its:List Value}(r:Vals vs its)(lo hi st:Option Int):Vals (pickS vs lo hi st) (pickS its lo hi st):=by
 unfold pickS
 rw [r.length]
 generalize sliceRange _ _ _=l
 induction l with
 | nil=>exact .nil
 | cons i l ih=>
  rw [List.filterMap_cons,List.filterMap_cons]
  cases hi:vs[i]? with
  | none=>
   have:its[i]? = none:=by
    rw [Zn] at hi ⊢
    rw [<- r.length];exact hi
   rw [this]
   exact ih
  | some v=>
   obtain ⟨u,h1,h2⟩:=r.get hi
   rw [h1]
   exact .cons h2 ih
section
variable {X:Cx}{e:Expr}{te:TE}{lo hi:Option Expr}{st:Expr}{tl th tt:TO}{pos p2:Pos}
noncomputable def tSlS (K:PySem.W.Frag)(te:TE)(tl th tt:TO):TE:=fun σ H Q=>te σ H fun x H1=>tl σ H1 fun l H2=>th σ H2 fun u H3=>tt σ H3 fun t H4=>t≠some 0/\∃ a xs,x=.ref a/\SqL K H4 a xs/\(pickS xs l u t).length<=sizeLine/\∀ p,H4 p=none->Q (.ref p) (upd H4 p (.lst (pickS xs l u t)))
open PyProof.Rows in
theorem pe_sliceS (he:PE X e te)(hl:PO X lo tl)(hu:PO X hi th)(ht:PO X (some st) tt):PE X (.Subscript e (.Slice lo hi (some st) p2) pos) (tSlS X.K te tl th tt):=by
 intro pins s σ H Q I h
 refine Subscript_ (thn (he pins s σ H _ I h) fun v s1 ⟨x,H1,I1,r1,q1⟩=>?_)
 refine wpAny_Slice (thn (hl pins s1 σ H1 _ I1 q1) fun vl s2 ⟨l,H2,I2,pl,q2⟩=>thn (hu pins s2 σ H2 _ I2 q2) fun vu s3 ⟨u,H3,I3,pu,q3⟩=>thn (ht pins s3 σ H3 _ I3 q3) fun vt s4 ⟨t,H4,I4,pt,q4⟩=>?_)
 obtain ⟨h0,a,xs,rfl,hx,hz,q⟩:=q4
 cases r1
 have I5:Inv X pins σ H4 { s4 with heap:=s4.heap.push { cls:=.type "slice",data:=.fields #[vl,vu,vt] } }:=I4.kept (t':=s4.toks) fun b ob q=>Heap.get?_push_of_some _ q
 obtain ⟨its,r,hl',hz'⟩:=I5.list hx
 have hlen:=r.length
 show wpAny (model X.prog X.w) X.A (subscriptTail e (.Slice lo hi (some st) p2) (.ref a) (.ref s4.heap.objs.size)) (EP X pins σ Q) X.xe { s4 with heap:=s4.heap.push { cls:=.type "slice",data:=.fields #[vl,vu,vt] } }
 refine tail_any (ops:=[.ref a,.ref s4.heap.objs.size]) hl'.isList.typeIs slot_list_getitem.lookup ?_ (by with_unfolding_all rfl)
 refine wpAny_getItem_list_slice hl'.isList (Heap.IsSliceOf.new ..) pl pu pt h0 ?_ (by rw [List.size_toArray]<;>omega)
 have hpick:slicePick its.toArray l u t=(pickS its l u t).toArray:=by
  unfold slicePick pickS
  simp
 rw [hpick]
 refine ⟨.ref _,_,I5.laid (t':=s4.toks) (o:=.lst (pickS xs l u t)) (fun b ob q=>Heap.get?_push_of_some _ q) (Nat.le_refl _) ?_,rfl,q _ (I5.hok.fresh (Nat.le_refl _))⟩
 exact ⟨hz,_,0,pick_vals r l u t,Heap.get?_push_size _ rfl⟩
theorem e_sliceS {me:ME}{ml mh mt:MO}(he:QE X e me)(hl:QO X lo ml)(hu:QO X hi mh)(ht:QO X (some st) mt):QE X (.Subscript e (.Slice lo hi (some st) p2) pos) (mSliceS me ml mh mt):=⟨pm_weak (pe_sliceS he.h hl.h hu.h ht.h) (by
 rintro σ H Q ⟨π,ρ,μ,d,μ',R,E,hm,k⟩
 obtain ⟨⟨x,μ1⟩,h1,hm⟩:=Zb.mp hm
 obtain ⟨⟨l,μ2⟩,h2,hm⟩:=Zb.mp hm
 obtain ⟨⟨u,μ3⟩,h3,hm⟩:=Zb.mp hm
 obtain ⟨⟨t,μ4⟩,h4,hm⟩:=Zb.mp hm
 refine ⟨π,ρ,μ,x,μ1,R,E,h1,fun π1 v1 H1 e1 R1 i1=>⟨π1,ρ,μ1,l,μ2,R1,E.mono e1,h2,fun π2 H2 e2 R2=>⟨π2,ρ,μ2,u,μ3,R2,(E.mono e1).mono e2,h3,fun π3 H3 e3 R3=>⟨π3,ρ,μ3,t,μ4,R3,((E.mono e1).mono e2).mono e3,h4,fun π4 H4 e4 R4=>?_⟩⟩⟩⟩
 split at hm
 ·rename_i h0
  obtain ⟨xs,h5,hm⟩:=Zb.mp hm
  split at hm
  ·rename_i hz
   cases hm
   obtain ⟨p,vs,rfl,q,hd⟩:=lst_of R4 (((i1.mono e2).mono e3).mono e4) h5
   have hpk:=pick_is hd l u t
   refine ⟨h0,p,vs,rfl,q,by rw [hpk.length];exact hz,fun p' hp=>?_⟩
   obtain ⟨e5,R5,_⟩:=R4.alloc (c:=.lst (pickS xs l u t)) (o:=.lst (pickS vs l u t)) hp hpk
   exact k _ _ _ ((((e1.trans e2).trans e3).trans e4).trans e5) R5 alloc_loc
  ·cases hm
 ·cases hm)⟩
end
section
variable {X:Cx}{pins:List (Addr×Obj)}{σ:St}{H:Hp}{s:Shared}{h':Heap}
theorem turned_laid {t':Nat}{ch:List Addr}{a:Addr}{o:HO}(I:Inv X pins σ H s)(k:∀ b u,b∉ch->s.heap.get? b=some u->h'.get? b=some u)(hf:∀ b∈ch,FpOk X pins H b)(hp:s.heap.objs.size<=a)
  (new:ObjOk X.prog X.w (upd H a o) h' a o):Inv X pins σ (upd H a o) { s with heap:=h',toks:=t' }:=by
 have hn:=I.hok.fresh hp
 have nit:∀ b u,H b=some u->b∉ch:=fun b u e z=>by
  have:=(hf b z).1
  rw [e] at this;cases this
 refine I.step (g':=s.gens) (d':=s.drawn) (ch:=ch) (fun b hb=>let ⟨f0,f1,f2,f3,f4,f5⟩:=hf b hb;⟨f3,f1,f4,f5⟩) (fun b o _ _ hc e _=>k b o hc e) (fun b o _ _ hc e _=>⟨o.slots,k b o hc e⟩) (fun b ob hc e n=>?_)
  (fun b o hc e=>⟨o,k b o hc e⟩) (fun b xs q=>?_) (fun b ob xs q=>?_) (fun b ps q=>?_) (fun m hm=>?_) (fun b u e=>?_) I.bare
 ·rw [upd_ne (Nat.ne_of_lt (Nat.lt_of_lt_of_le (Heap.lt_size e) hp))];exact n
 ·rw [upd_ne (ne_of_none q hn)];exact q
 ·rw [upd_ne (ne_of_none q hn)];exact q
 ·exact ⟨#[],by rw [upd_ne (ne_of_none q hn),q];simp⟩
 ·obtain ⟨o,es,ep,ho,r⟩:=hm
  exact ⟨o,es,ep,k _ o (fun z=>(hf _ z).2.1 rfl) ho,r⟩
 ·by_cases hb:b=a
  ·subst hb;rw [upd_same] at e;cases e;exact new
  ·rw [upd_ne hb] at e
   refine (I.hok b u e).stay (fun c v hc q=>k c v ?_ q) (fun c q=>by rw [upd_ne (ne_of_none q hn)];exact q) fun c xs q=>by rw [upd_ne (ne_of_none q hn)];exact q
   rcases hc with z|z
   ·rw [z];exact nit b u e
   ·exact nit c _ z
theorem turned_kept {t':Nat}{ch:List Addr}(I:Inv X pins σ H s)(k:∀ b u,b∉ch->s.heap.get? b=some u->h'.get? b=some u)(hf:∀ b∈ch,FpOk X pins H b):Inv X pins σ H { s with heap:=h',toks:=t' }:=by
 have nit:∀ b u,H b=some u->b∉ch:=fun b u e z=>by
  have:=(hf b z).1
  rw [e] at this;cases this
 refine I.step (g':=s.gens) (d':=s.drawn) (ch:=ch) (fun b hb=>let ⟨f0,f1,f2,f3,f4,f5⟩:=hf b hb;⟨f3,f1,f4,f5⟩) (fun b o _ _ hc e _=>k b o hc e) (fun b o _ _ hc e _=>⟨o.slots,k b o hc e⟩) (fun b ob hc e n=>n)
  (fun b o hc e=>⟨o,k b o hc e⟩) (fun b xs q=>q) (fun b ob xs q=>q) (fun b ps q=>⟨#[],by rw [q];simp⟩) (fun m hm=>?_) (fun b u e=>?_) I.bare
 ·obtain ⟨o,es,ep,ho,r⟩:=hm
  exact ⟨o,es,ep,k _ o (fun z=>(hf _ z).2.1 rfl) ho,r⟩
 ·refine (I.hok b u e).stay (fun c v hc q=>k c v ?_ q) (fun c q=>q) fun c xs q=>q
  rcases hc with z|z
  ·rw [z];exact nit b u e
  ·exact nit c _ z
end
noncomputable def Ite (K:PySem.W.Frag)(a:Addr):It:=
 ⟨fun i H=>∃ xs x,SqL K H a xs/\xs[i]? = some x,fun i H x H'=>∃ p v,x=.ref p/\H p=none/\H'=upd H p (.tup [.int i,v])/\∀ xs,SqL K H a xs->xs[i]? = some v,fun i H=>∃ xs,SqL K H a xs/\xs.length<=i⟩
theorem turn_enum {P:Program}{w:World}{K:PySem.W.Frag}{es:List Expr}{kx:Nat}{pt:Pos}(a e it:Addr)(hei:e≠it) :
  Turn P w K (.Tuple es kx pt) (Ite K a) [e,it] e (fun i h=>∃ old,IsEnum h e it i old/\h.IsListIter it a i) where
 mem:=by simp
 obj:=fun i h ⟨old,st,st2⟩ b hb=>by
  have hb':b=e\/b=it:=by simpa using hb
  rcases hb' with rfl|rfl
  ·exact ⟨_,st,fun v z=>by
    have z':Data.fields _=Data.cell v:=z
    cases z'⟩
  ·obtain ⟨o,e1,c,d⟩:=st2
   exact ⟨o,e1,fun v z=>by rw [d] at z;cases z⟩
 keep:=fun i h h' ⟨old,st,st2⟩ k=>⟨old,k e (by simp) _ st,st2.at fun o e1=>k it (by simp) o e1⟩
 item:=by
  intro X hP hw hK hc i pins s σ H E I hf ⟨old,st,st2⟩ hg
  subst hP hw hK
  obtain ⟨xs,x,hq,hx⟩:=hg
  obtain ⟨its,rv,p,hz⟩:=I.list hq
  obtain ⟨u,hu,ru⟩:=rv.get hx
  refine wpAny_pyNext_enum_item st st2 p.isList (x:=u) (by simpa using hu) hei fun h1 ho hit ht hsz hk=>⟨_,rfl,wpAny_letOwnedTupleGo_enum ho fun h2 he2 hs2=>?_⟩
  have hlt:e<s.heap.objs.size:=Heap.lt_size st
  have hne:s.heap.objs.size≠e:=Nat.ne_of_gt hlt
  have ht2:h2.get? s.heap.objs.size=some { cls:=.type "tuple",data:=.seq #[.int i s.toks,u] }:=(hs2.2 _ hne).trans ht
  have hfr:H s.heap.objs.size=none:=I.hok.fresh (Nat.le_refl _)
  refine ⟨.ref s.heap.objs.size,upd H s.heap.objs.size (.tup [.int i,x]),?_,rfl,⟨s.heap.objs.size,x,rfl,hfr,rfl,fun ys hy=>by rw [I.list_inj hy hq];exact hx⟩,⟨u,he2,hit.extBut hs2.extBut (Ne.symm hei)⟩,fun b hb=>?_⟩
  ·refine turned_laid (s:=s) (h':=h2) (t':=s.toks+1) (ch:=[e,it]) I (fun b ob hb eb=>?_) hf (Nat.le_refl _) ?_
   ·have hb':b≠e/\b≠it:=by simpa using hb
    exact (hs2.2 b hb'.1).trans (hk b ob hb'.1 hb'.2 eb)
   ·exact ⟨by show (2:Nat)<=sizeLine;decide,[.int i s.toks,u],.cons ⟨_,rfl⟩ (.cons ru .nil),_,ht2,rfl,0,rfl,rfl⟩
  ·have hb':b=e\/b=it:=by simpa using hb
   have hn:=(hf b hb).1
   obtain ⟨o,ho2,_⟩:=st2
   rw [upd_ne]
   ·exact hn
   ·rcases hb' with rfl|rfl
    ·exact Nat.ne_of_lt hlt
    ·exact Nat.ne_of_lt (Heap.lt_size ho2)
 done:=by
  intro X hP hw hK hc i pins s σ H E I hf ⟨old,st,st2⟩ hg
  subst hP hw hK
  obtain ⟨xs,hq,hx⟩:=hg
  obtain ⟨its,rv,p,hz⟩:=I.list hq
  have hl:=rv.length
  refine wpAny_pyNext_enum_end (I.ok.hd hc) st st2 p.isList (by simp;omega) fun h' eb=>⟨rfl,turned_kept (t':=s.toks) (ch:=[e,it]) I (fun b o hb z=>eb b o ?_ z) hf⟩
  have hb':b≠e/\b≠it:=by simpa using hb
  exact hb'.2
 self:=fun _ _ _ _ _ ⟨old,st,_⟩ h=>wpAny_pyIter_enum st h
structure QJT (X:Cx)(e:Expr)(m:MI):Prop where
 h:∀ es k p,PI X (.Tuple es k p) e (tMI X.K m)
theorem QJ.t {X:Cx}{e:Expr}{m:MI}(h:QJ X e m):QJT X e m:=⟨fun es k p=>h.h _⟩
noncomputable def srcEnum (x:D):Src:=fun μ i=>(seqD μ x).map fun xs=>(xs[i]?).map fun d=>.tup [.int i,d]
noncomputable def iEnumD (ms:MA):MI:=fun ρ μ=>(ms ρ μ).bind fun p=>match p.1 with
 | [x]=>(lstD p.2 x).map fun xs=>(srcEnum x,xs.length+1,p.2)
 | _=>none
theorem wk_enum {K:PySem.W.Frag}{π:Nat->Addr}{μ:Hm}{H:Hp}{v:V}{x:D}{xs:List D}(R:Rp K π H μ)(h:IsD K π μ.length H v x)(hs:lstD μ x=some xs):∃ a,v=.ref a/\(∃ vs,SqL K H a vs)/\Wk K (Ite K a) (srcEnum x) π μ.length H:=by
 have hw:seqD μ x=some xs:=by
  cases x with
  | rol ys=>exact hs
  | loc b=>exact hs
  | _=>cases hs
 obtain ⟨p,vs,rfl,hq,_⟩:=lst_of R h hs
 refine ⟨p,rfl,⟨vs,hq⟩,?_⟩
  -- the list as it stands later
 have later:∀ π' μ' H',Ext π μ.length H π' μ'.length H'->Rp K π' H' μ'->∀ ys,seqD μ' x=some ys->∃ ws,SqL K H' p ws/\IsDs K π' μ'.length H' ws ys:=fun π' μ' H' e R' ys hy=>by
  have i':=h.mono e
  have hl:lstD μ' x=some ys:=by
   cases x with
   | rol zs=>exact hy
   | loc b=>exact hy
   | _=>cases hs
  obtain ⟨p',ws,e1,q1,d1⟩:=lst_of R' i' hl
  cases e1
  exact ⟨ws,q1,d1⟩
 refine ⟨fun π' μ' H' i e R' z=>?_,fun π' μ' H' i d e R' z=>?_⟩
 ·obtain ⟨ys,h1,h2⟩:=Zm.mp z
  obtain ⟨ws,q1,d1⟩:=later π' μ' H' e R' ys h1
  have h3:ys[i]? = none:=by
   cases q:ys[i]? with
   | none=>rfl
   | some d=>rw [q] at h2;cases h2
  exact ⟨ws,q1,by rw [d1.length];exact Zn.mp h3⟩
 ·obtain ⟨ys,h1,h2⟩:=Zm.mp z
  obtain ⟨d',h3,h4⟩:=Zm.mp h2
  subst h4
  obtain ⟨ws,q1,d1⟩:=later π' μ' H' e R' ys h1
  obtain ⟨v,h5,h6⟩:=d1.get h3
  refine ⟨⟨ws,v,q1,h5⟩,?_⟩
  rintro y H2 ⟨t,v',rfl,hn,rfl,hv⟩
  have:=hv ws q1
  rw [h5] at this
  cases this
  obtain ⟨e2,R2⟩:=R'.fresh (o:=.tup [.int i,v]) hn
  exact ⟨e2,R2,.tup (.of upd_same) (.cons (.int _) (.cons (h6.mono e2) .nil))⟩
noncomputable def iEnum (K:PySem.W.Frag)(ta:TA):TI:=fun σ H R=>ta σ H fun vs H1=>∃ a,vs=[.ref a]/\(∃ xs,SqL K H1 a xs)/\R (Ite K a) H1
open PyProof.Rows in
theorem pi_enum {X:Cx}{a:Expr}{ta:TA}{p pos pt:Pos}{es:List Expr}{kx:Nat}(hg:Gl X "enumerate") (hm:X.mg "enumerate" = none) (ha:PA X [a] ta)(hs:starEach [a] X.env=[(false,eval a X.env)]):PI X (.Tuple es kx pt) (.Call (.Name "enumerate" p) [a] [] pos) (iEnum X.K ta):=by
 intro pins s σ H R I h
 refine Call_ (ld_blt I hg hm Boot.«enumerate» (callWith_type1 (thn (ha pos pins s σ H _ I h) fun us s1 ⟨vs,H1,I1,r1,q1⟩=>?_) hs rfl))
 obtain ⟨a0,rfl,⟨ws,hq⟩,q⟩:=q1
 obtain ⟨u,rfl,ru⟩:=vals1 r1
 cases ru
 obtain ⟨its,rv,pl,hz⟩:=I1.list hq
 refine call_enumerate_list pl.isList fun h' he hit hsz hk=>?_
 refine wpAny_pyIter_enum he ?_
 have I2:Inv X pins σ H1 { s1 with heap:=h' }:=I1.kept (t':=s1.toks) hk
 refine ⟨s1.heap.objs.size+1,[s1.heap.objs.size+1,s1.heap.objs.size],_,_,H1,rfl,I2,turn_enum a0 _ _ (Nat.succ_ne_self _),⟨_,he,hit⟩,fun b hb=>?_,q⟩
 have hb':b=s1.heap.objs.size+1\/b=s1.heap.objs.size:=by simpa using hb
 rcases hb' with rfl|rfl
 ·exact I1.fpOk (Nat.le_succ _) (I1.hok.fresh (Nat.le_succ _))
 ·exact I1.fpOk (Nat.le_refl _) (I1.hok.fresh (Nat.le_refl _))
theorem j_enum {X:Cx}{a:Expr}{ms:MA}{n:Nat}{p pos:Pos}(hgl:Gl X "enumerate") (hmg:X.mg "enumerate" = none) (ha:QA X [a] ms n):QJT X (.Call (.Name "enumerate" p) [a] [] pos) (iEnumD ms):=⟨fun es kx pt pins s σ H R I hw=>by
 have hs:=ha.s
 rw [List.all_cons,Bool.and_eq_true] at hs
 obtain ⟨π,ρ,μ,src,n',μ',Rr,E,hm,k⟩:=hw
 obtain ⟨⟨x,μ1⟩,h1,hm⟩:=Zb.mp hm
 refine pi_enum hgl hmg ha.h (star_cons hs.1) pins s σ H R I ⟨π,ρ,μ,x,μ1,Rr,E,h1,fun π1 vs H1 e1 R1 i1=>?_⟩
 dsimp only at hm
 split at hm
 ·rename_i x
  obtain ⟨xs,h2,hm⟩:=Zm.mp hm
  cases hm
  cases i1 with
  | cons i1 t1=>
   cases t1
   obtain ⟨a0,rfl,hq,W⟩:=wk_enum R1 i1 h2
   exact ⟨a0,rfl,hq,k π1 H1 _ e1 R1 W⟩
 ·cases hm⟩
section
variable {X:Cx}{pos:Pos}
theorem s_forG {tg iter:Expr}{mi:MI}{g:MG}{mb:MS}{body:List Stmt}(hi:PI X tg iter (tMI X.K mi))(hg:QG X tg g)(hb:QB X body mb)(hp:PassesOwn (model X.prog X.w) X.A X.env X.xe)(hc:X.calm=true)(hs:noSet iter=true) :
  QS X (.For tg iter body [] pos) (mForI mi g mb):=⟨pms_weak (ps_for hp hc hi hg.h hb.h (by intro z;cases iter<;>first|rfl|cases hs)) (by
 rintro E σ H ⟨π,ρ,μ,fl,ρ',μ',R,EN,hm,k⟩
 obtain ⟨⟨src,n,μ1⟩,h1,hm⟩:=Zb.mp hm
 refine ⟨π,ρ,μ,src,n,μ1,R,EN,h1,fun π1 H1 J e1 R1 W=>?_⟩
 have kk:FlOk X.K E π1 μ1.length H1 fl ρ' μ':=by
  cases fl with
  | nx=>exact fun π3 σ3 H3 e3 R3 E3=>k π3 σ3 H3 (e1.trans e3) R3 E3
  | bk=>exact fun π3 σ3 H3 e3 R3 E3=>k π3 σ3 H3 (e1.trans e3) R3 E3
  | ct=>exact fun π3 σ3 H3 e3 R3 E3=>k π3 σ3 H3 (e1.trans e3) R3 E3
  | rt d=>exact KC.after k e1
 exact go_read W kk .refl R1 (EN.mono e1) hm)⟩
theorem s_alt {st:Stmt}{m m1 m2:MS}(h1:QS X st m1)(h2:QS X st m2)(h:∀ ρ μ r,m ρ μ=some r->m1 ρ μ=some r\/m2 ρ μ=some r):QS X st m:=⟨fun pins s σ H D I q=>by
 obtain ⟨π,ρ,μ,fl,ρ',μ',R,E,hm,k⟩:=q
 rcases h ρ μ _ hm with z|z
 ·exact h1.h pins s σ H D I ⟨π,ρ,μ,fl,ρ',μ',R,E,z,k⟩
 ·exact h2.h pins s σ H D I ⟨π,ρ,μ,fl,ρ',μ',R,E,z,k⟩⟩
noncomputable def mPutG (put:D->D->D->Hm->Option Hm)(o i v:ME):MS:=fun ρ μ=>(v ρ μ).bind fun p=>(o ρ p.2).bind fun q=>(i ρ q.2).bind fun r=>(put q.1 r.1 p.1 r.2).map fun μ'=>(.nx,ρ,μ')
noncomputable def putL:D->D->D->Hm->Option Hm
 | .loc a,.int i,d,μ=>match μ[a]? with
  | some (.lst xs)=>(ixN xs.length i).map fun j=>μ.set a (.lst (xs.set j d))
  | _=>none
 | _,_,_,_=>none
noncomputable def putK1:D->D->D->Hm->Option Hm
 | .loc a,k,d,μ=>match μ[a]? with
  | some (.dK kvs)=>(keyD k).bind fun kk=>if kvs.length<sizeLine then some (μ.set a (.dK (putD kvs kk d))) else none
  | _=>none
 | _,_,_,_=>none
noncomputable def putK2:D->D->D->Hm->Option Hm
 | .loc a,y,d,μ=>match μ[a]? with
  | some (.dT kvs)=>(keyT y).bind fun k=>if kvs.length<sizeLine then some (μ.set a (.dT (putDT kvs k d))) else none
  | _=>none
 | _,_,_,_=>none
noncomputable def putM:D->D->D->Hm->Option Hm:=fun o i d μ=>match o with
 | .loc a=>match μ[a]? with
  | some (.dK _)=>putK1 o i d μ
  | some (.dT _)=>putK2 o i d μ
  | _=>putL o i d μ
 | _=>none
noncomputable def mPut:=mPutG putM
theorem isDs_set {K:PySem.W.Frag}{π:Nat->Addr}{n:Nat}{H:Hp}:∀ {vs:List V}{ds:List D}(j:Nat){v:V}{d:D},IsDs K π n H vs ds->IsD K π n H v d->IsDs K π n H (vs.set j v) (ds.set j d)
 | _,_,j,_,_,.nil,h=>by simp;exact .nil
 | _,_,0,_,_,.cons _ t,h=>.cons h t
 | _,_,j+1,_,_,.cons h0 t,h=>.cons h0 (isDs_set j t h)
noncomputable def sLPut (td ty tv:TE):TS:=fun D σ H=>tv σ H fun v H1=>td σ H1 fun x H2=>ty σ H2 fun y H3=>rSetL x y v H3 fun H4=>D.nx σ H4
open PyProof.Rows in
theorem ps_lput {o i value:Expr}{pos':Pos}{td ty tv:TE}(ho:PE X o td)(hi:PE X i ty)(hv:PE X value tv)(hs:swapsWith value (some (.Subscript o i pos')) pos.line X.env=pure false):PS X (.Assign [.Subscript o i pos'] value pos) (sLPut td ty tv):=by
 intro pins s σ H D I h
 refine wpAny_Assign_Subscript (thn (hv pins s σ H _ I h) fun r s1 ⟨v,H1,I1,rv,q1⟩=>thn (ho pins s1 σ H1 _ I1 q1) fun u s2 ⟨x,H2,I2,rx,q2⟩=>thn (hi pins s2 σ H2 _ I2 q2) fun iv s3 ⟨y,H3,I3,ry,q3⟩=>?_) hs
 exact thn (set_list pins s3 σ H3 x y v u iv r _ I3 rx ry rv q3) fun _ s4 ⟨H4,I4,q4⟩=>⟨σ,H4,I4,q4⟩
theorem s_putL {o i e:Expr}{mo mi me:ME}{tpos:Pos}(ho:QE X o mo)(hi:QE X i mi)(he:QE X e me)(h:noComp e=true):QS X (.Assign [.Subscript o i tpos] e pos) (mPutG putL mo mi me):=
 ⟨pms_weak (ps_lput ho.h hi.h he.h (swaps_of h)) (by
 rintro E σ H ⟨π,ρ,μ,fl,ρ',μ',R,EN,hm,k⟩
 obtain ⟨⟨x,μ1⟩,h1,hm⟩:=Zb.mp hm
 obtain ⟨⟨y,μ2⟩,h2,hm⟩:=Zb.mp hm
 obtain ⟨⟨z,μ3⟩,h3,hm⟩:=Zb.mp hm
 obtain ⟨μ4,h4,hm⟩:=Zm.mp hm
 cases hm
 refine ⟨π,ρ,μ,x,μ1,R,EN,h1,fun π1 v1 H1 e1 R1 i1=>⟨π1,ρ,μ1,y,μ2,R1,EN.mono e1,h2,fun π2 v2 H2 e2 R2 i2=>⟨π2,ρ,μ2,z,μ3,R2,(EN.mono e1).mono e2,h3,fun π3 v3 H3 e3 R3 i3=>?_⟩⟩⟩
 dsimp only at h4
 cases y with
 | loc a=>
  cases z with
  | int i=>
   simp only [putL] at h4
   split at h4
   ·rename_i xs hx
    obtain ⟨j,h5,h6⟩:=Zm.mp h4
    subst h6
    obtain ⟨vs,h7,h8⟩:=R3.lst _ xs hx
    have i2':=i2.mono e3
    cases i2'
    cases i3
    have hlt:=(Zg.mp hx).1
    have iv:=(i1.mono e2).mono e3
    refine ⟨_,vs,i,j,rfl,rfl,h7,by rw [h8.length];exact h5,?_⟩
    obtain ⟨e4,R4⟩:=R3.put (c:=.lst (xs.set j x)) (o:=.lst (vs.set j v1)) hlt h7 (.inl ⟨vs,rfl⟩) (isDs_set j h8 iv)
    exact k π3 σ _ (((e1.trans e2).trans e3).trans e4) R4 ((((EN.mono e1).mono e2).mono e3).mono e4)
   ·cases h4
  | _=>simp [putL] at h4
 | _=>simp [putL] at h4)⟩
theorem s_putK {kk:Nat}(hr:Room kk X.A){o i e:Expr}{mo mi me:ME}{tpos:Pos}(ho:QE X o mo)(hi:QE X i mi)(he:QE X e me)(h:noComp e=true):QS X (.Assign [.Subscript o i tpos] e pos) (mPutG putK1 mo mi me):=
 ⟨pms_weak (ps_dput (hu_of hr) ho.h hi.h he.h (swaps_of h)) (by
 rintro E σ H ⟨π,ρ,μ,fl,ρ',μ',R,EN,hm,k⟩
 obtain ⟨⟨x,μ1⟩,h1,hm⟩:=Zb.mp hm
 obtain ⟨⟨y,μ2⟩,h2,hm⟩:=Zb.mp hm
 obtain ⟨⟨z,μ3⟩,h3,hm⟩:=Zb.mp hm
 obtain ⟨μ4,h4,hm⟩:=Zm.mp hm
 cases hm
 refine ⟨π,ρ,μ,x,μ1,R,EN,h1,fun π1 v1 H1 e1 R1 i1=>⟨π1,ρ,μ1,y,μ2,R1,EN.mono e1,h2,fun π2 v2 H2 e2 R2 i2=>⟨π2,ρ,μ2,z,μ3,R2,(EN.mono e1).mono e2,h3,fun π3 v3 H3 e3 R3 i3=>?_⟩⟩⟩
 dsimp only at h4
 cases y with
 | loc a=>
  simp only [putK1] at h4
  split at h4
  ·rename_i kvs hx
   obtain ⟨kk,h5,h6⟩:=Zb.mp h4
   split at h6
   ·rename_i hl
    cases h6
    obtain ⟨vs,h7,h8,h9⟩:=R3.dK _ kvs hx
    have i2':=i2.mono e3
    cases i2'
    have hk:=key_is i3 h5
    subst hk
    have hlt:=(Zg.mp hx).1
    have iv:=(i1.mono e2).mono e3
    have hks:=IsKs.of h8 h9
    refine ⟨_,_,rfl,DPut.k h7 (by rw [hks.length];exact hl),?_⟩
    obtain ⟨e4,R4⟩:=R3.put (c:=.dK (putD kvs kk x)) (o:=.dK (putK vs kk v1)) hlt h7 (.inr (.inl ⟨vs,rfl⟩)) (hks.put iv kk).maps
    exact k π3 σ _ (((e1.trans e2).trans e3).trans e4) R4 ((((EN.mono e1).mono e2).mono e3).mono e4)
   ·cases h6
  ·cases h4
 | _=>simp [putK1] at h4)⟩
theorem mPutG_alt {f f1 f2:D->D->D->Hm->Option Hm}{mo mi me:ME}(h:∀ x y z μ r,f x y z μ=some r->f1 x y z μ=some r\/f2 x y z μ=some r):∀ ρ μ r,mPutG f mo mi me ρ μ=some r->mPutG f1 mo mi me ρ μ=some r\/mPutG f2 mo mi me ρ μ=some r:=by
 intro ρ μ r hm
 obtain ⟨p,h1,hm⟩:=Zb.mp hm
 obtain ⟨q,h2,hm⟩:=Zb.mp hm
 obtain ⟨t,h3,hm⟩:=Zb.mp hm
 obtain ⟨μ',h4,hm⟩:=Zm.mp hm
 rcases h _ _ _ _ _ h4 with z|z
 ·exact .inl (Zb.mpr ⟨p,h1,Zb.mpr ⟨q,h2,Zb.mpr ⟨t,h3,Zm.mpr ⟨μ',z,hm⟩⟩⟩⟩)
 ·exact .inr (Zb.mpr ⟨p,h1,Zb.mpr ⟨q,h2,Zb.mpr ⟨t,h3,Zm.mpr ⟨μ',z,hm⟩⟩⟩⟩)
theorem s_badSet {st:Stmt}{i:Nat}:QS X st (mSet i mBad):=⟨fun pins s σ H D I q=>by
 obtain ⟨π,ρ,μ,fl,ρ',μ',R,E,hm,k⟩:=q
 cases hm⟩
end
end L3
namespace L3
open PySem L2
noncomputable def insAt {α:Type}(xs:List α)(k:Nat)(d:α):List α:=xs.take k++d::xs.drop k
theorem Vals.ins {xs:List V}{us:List Value}(h:Vals xs us)(k:Nat){v:V}{u:Value}(r:RelV v u):Vals (insAt xs k v) (insAt us k u):=(h.take k).append (.cons r (h.drop k))
section
variable {X:Cx}
end
noncomputable def eqAll (μ:Hm)(x:D):List D->Option (List Bool)
 | []=>some []
 | y::r=>(eqD 8 μ y x).bind fun b=>(eqAll μ x r).map fun c=>b::c
noncomputable def indexM:D->List D->Hm->Option (D×Hm)
 | .loc a,[x],μ=>match μ[a]? with
  | some (.lst xs)=>(eqAll μ x xs).bind fun bs=>if bs.findIdx id<bs.length/\bs.length<=sizeLine then some (.int (bs.findIdx id:Nat),μ) else none
  | _=>none
 | _,_,_=>none
noncomputable def rIndex (K:PySem.W.Frag):V->List V->Hp->VK->Prop:=fun x vs H Q=>∃ π μ a xs y dy bs,Rp K π H μ/\x=.ref (π a)/\vs=[y]/\μ[a]? = some (.lst xs)/\IsD K π μ.length H y dy/\eqAll μ dy xs=some bs/\bs.findIdx id<bs.length/\Q (.int (bs.findIdx id:Nat)) H
theorem index_ok {K:PySem.W.Frag}:MtD K indexM (rIndex K):=by
 intro π H μ x ds d μ' v vs Q R ix is hm k
 unfold indexM at hm
 split at hm
 ·split at hm
  ·rename_i xs hx
   obtain ⟨bs,h1,hm⟩:=Zb.mp hm
   split at hm
   ·rename_i hb
    cases hm
    cases is with
    | cons i1 t1=>
     cases t1
     cases ix
     exact ⟨π,μ,_,xs,_,_,bs,R,rfl,rfl,hx,i1,h1,hb.1,k π _ H .refl R (.int _)⟩
   ·cases hm
  ·cases hm
 ·cases hm
section
variable {X:Cx}
theorem idx_ans {pins:List (Addr×Obj)}{σ:St}{H:Hp}{s:Shared}{π:Nat->Addr}{μ:Hm}(I:Inv X pins σ H s)(R:Rp X.K π H μ){A:Around}(hu:A.units+8<cLine){x:V}{v:Value}{dx:D}(rx:RelV x v)(ix:IsD X.K π μ.length H x dx) :
  ∀ {ys:List D}{vs:List V}{us:List Value}{bs:List Bool},IsDs X.K π μ.length H vs ys->Vals vs us->eqAll μ dx ys=some bs->
   ∃ g:Value->Bool,(∀ u∈us,SeqAt.EqAt A s u v (g u))/\us.map g=bs:=by
 classical
 intro ys vs us bs hi hv hm
 have each:∀ {ys:List D}{vs:List V}{us:List Value}{bs:List Bool},IsDs X.K π μ.length H vs ys->Vals vs us->eqAll μ dx ys=some bs->(∀ u∈us,∃ c,SeqAt.EqAt A s u v c/\∃ w dy,RelV w u/\IsD X.K π μ.length H w dy/\eqD 8 μ dy dx=some c):=by
  intro ys
  induction ys with
  | nil=>
   intro vs us b hi hv hm u hu'
   cases hi
   cases hv
   cases hu'
  | cons y ys ih=>
   intro vs us b hi hv hm u hu'
   cases hi with
   | cons h t=>
    cases hv with
    | cons r rt=>
     obtain ⟨c,h1,hm⟩:=Zb.mp hm
     obtain ⟨c2,h2,hm⟩:=Zm.mp hm
     rcases List.mem_cons.mp hu' with rfl|hu'
     ·exact ⟨c,eq_at I R 8 hu r rx h ix h1,_,_,r,h,h1⟩
     ·exact ih t rt h2 u hu'
 have ec:=each hi hv hm
 refine ⟨fun u=>if h:u∈us then Classical.choose (ec u h) else false,fun u hu'=>?_,?_⟩
 ·simp only [dif_pos hu']
  exact (Classical.choose_spec (ec u hu')).1
 ·have key:∀ u (h:u∈us) w dy c,RelV w u->IsD X.K π μ.length H w dy->eqD 8 μ dy dx=some c->Classical.choose (ec u h)=c:=by
   intro u h w dy c rw' iw ew
   obtain ⟨_,w2,dy2,r2,i2,e2⟩:=Classical.choose_spec (ec u h)
   have:w2=w:=r2.inj rw'
   subst this
   have:=isD_uniq I R i2 iw
   subst this
   rw [e2] at ew
   exact Option.some.inj ew
  have main:∀ {ys:List D}{vs:List V}{us':List Value}{bs:List Bool},(∀ u∈us',u∈us)->IsDs X.K π μ.length H vs ys->Vals vs us'->eqAll μ dx ys=some bs->us'.map (fun u=>if h:u∈us then Classical.choose (ec u h) else false)=bs:=by
   intro ys
   induction ys with
   | nil=>
    intro vs us' b hs hi hv hm
    cases hi
    cases hv
    cases hm
    rfl
   | cons y ys ih=>
    intro vs us' b hs hi hv hm
    cases hi with
    | cons h t=>
     cases hv with
     | @cons _ u _ us2 r rt=>
      obtain ⟨c,h1,hm⟩:=Zb.mp hm
      obtain ⟨c2,h2,hm⟩:=Zm.mp hm
      have hu1:u∈us:=hs u (List.mem_cons_self ..)
      rw [List.map_cons,ih (fun z hz=>hs z (List.mem_cons_of_mem _ hz)) t rt h2,dif_pos hu1,key u hu1 _ _ c r h h1]
      exact hm
  exact main (fun _ h=>h) hi hv hm
theorem mt_index (hu:X.A.units+20<cLine):MtM X "list.index" (rIndex X.K):=by
 intro pins s σ H x vs v us Q I rx rv h
 obtain ⟨π,μ,a,xs,y,dy,bs,R,rfl,rfl,hx,iy,he,hf,q⟩:=h
 cases rx
 obtain ⟨u,rfl,ru⟩:=rv.one
 obtain ⟨ws,hH,hd⟩:=R.lst a xs hx
 obtain ⟨z,its,n,r,hl,e⟩:=I.lstM hH
 obtain ⟨g,g1,g2⟩:=idx_ans I R (A:=X.A.in1) (by rw [in1_units];omega) ru iy hd r he
 have hlen:bs.length=its.length:=by rw [<- g2,Zl]
 have hj:bs.findIdx id<its.toArray.size:=by rw [List.size_toArray,<- hlen];exact hf
 have hget:∀ m (hm:m<its.length),bs[m]? = some (g its[m]):=fun m hm=>by
  rw [<- g2,List.getElem?_map,List.getElem?_eq_getElem hm];rfl
 have small:((bs.findIdx id:Nat):Int)<2 ^ 63 - 1:=by
  have h1:bs.findIdx id<its.length:=by simpa using hj
  have h2:=line63
  have h3:(bs.findIdx id:Nat)<sizeLine:=by omega
  have h4:((sizeLine:Nat):Int)<=2 ^ 63 - 1:=by decide
  omega
 refine call_meets F.slot_list_index ⟨_,e,rfl⟩ F.entry_list_index (F.args_list_index_2 _ _) (SeqAt.list_indexAt (π a) its.toArray n none #[] u g (bs.findIdx id) hj small ?_ ?_) ⟨e,fun y hy=>g1 y (by simpa using hy),⟨.int (bs.findIdx id:Nat),H,I.tok _,⟨_,rfl⟩,q⟩⟩
 ·have h1:bs.findIdx id<its.length:=by simpa using hj
  have h2:=List.findIdx_getElem (p:=id) (xs:=bs) (w:=hf)
  have h3:=hget _ h1
  rw [List.getElem?_eq_getElem hf] at h3
  have h4:=Option.some.inj h3
  rw [h4] at h2
  simpa using h2
 ·intro m hm hlt
  have h1:m<its.length:=by simpa using hm
  have h2:=List.not_of_lt_findIdx (p:=id) (xs:=bs) hlt
  have h3:=hget _ h1
  have hb:m<bs.length:=by omega
  rw [List.getElem?_eq_getElem hb] at h3
  have h4:=Option.some.inj h3
  rw [h4] at h2
  simpa using h2
end
section
variable {X:Cx}{e o:Expr}{mo:ME}{apos cpos:Pos}{es:List Expr}{ms:MA}{n:Nat}
end
noncomputable def sortI (is:List Int):List Int:=is.mergeSort fun a b=>decide (a<=b)
theorem sortI_is {is ns:List Int}(hp:ns.Perm is)(hs:ns.Pairwise (·<=·)):ns=sortI is:=by
 have h1:(sortI is).Perm is:=List.mergeSort_perm _ _
 have h2:(sortI is).Pairwise (·<=·):=by
  have:=List.pairwise_mergeSort (le:=fun a b:Int=>decide (a<=b)) (fun a b c h1 h2=>by simp only [decide_eq_true_eq] at *;omega) (fun a b=>by simp only [Bool.or_eq_true,decide_eq_true_eq];omega) is
  exact this.imp fun h=>by simpa using h
 exact List.Perm.eq_of_pairwise (le:=fun a b:Int=>a<=b) (fun a b _ _ h1 h2=>by omega) hs h2 (hp.trans h1.symm)
noncomputable def sortIM:MF:=fun ds μ=>match ds with
 | [x]=>(lstD μ x).bind fun xs=>(intsD xs).bind fun is=>if is.length<64 then some (.loc μ.length,μ++[.lst ((sortI is).map D.int)]) else none
 | _=>none
noncomputable def rSortI (K:PySem.W.Frag):List V->Hp->VK->Prop:=fun xs H Q=>∃ (p:Addr)(is:List Int),xs=[.ref p]/\SqL K H p (is.map V.int)/\is.length<64/\∀ l,H l=none->Q (.ref l) (upd H l (.lst ((sortI is).map V.int)))
theorem sortIM_ok {K:PySem.W.Frag}:CallD K sortIM (rSortI K):=by
 intro π H μ xs d μ' vs Q R i hm k
 unfold sortIM at hm
 split at hm
 ·obtain ⟨ys,h1,hm⟩:=Zb.mp hm
  obtain ⟨is,h2,hm⟩:=Zb.mp hm
  split at hm
  ·rename_i hb
   cases hm
   cases i with
   | cons i t=>
    cases t
    obtain ⟨p,ws,rfl,q,hd⟩:=lst_of R i h1
    rw [intsD_eq h2] at hd
    have:=ints_of' hd
    subst this
    refine ⟨p,is,rfl,q,hb,fun l hl=>?_⟩
    obtain ⟨e2,R2,_⟩:=R.alloc (c:=.lst ((sortI is).map D.int)) (o:=.lst ((sortI is).map V.int)) hl (isInts _)
    exact k _ _ _ e2 R2 alloc_loc
  ·cases hm
 ·cases hm
theorem call_sortI {X:Cx}:CallR X (.builtin "sorted") (rSortI X.K):=by
 intro pins s σ H xs us Q I r h
 obtain ⟨p,is,rfl,hq,h64,k⟩:=h
 obtain ⟨u,rfl,ru⟩:=vals1 r
 cases ru
 obtain ⟨its,rv,pl,hz⟩:=I.list hq
 have hlen:=rv.length
 rw [Zl] at hlen
 refine PyProof.Rows.sorted_ints pl.isList (intsAre_of rv) (by omega) fun out ns' a1 a2 a3=>?_
 obtain ⟨e,he⟩:=PyProof.Rows.sortedAll_at s.heap its out
 have hn:H (s.heap.objs.size+1)=none:=I.hok.fresh (Nat.le_succ _)
 have e1:ns'=sortI is:=sortI_is a2 a3
 subst e1
 refine ⟨.ref (s.heap.objs.size+1),_,I.laid (t':=s.toks) (a:=s.heap.objs.size+1) (o:=.lst ((sortI is).map V.int)) (fun b ob z=>PyProof.Rows.sortedAll_old z) (Nat.le_succ _) ?_,rfl,k _ hn⟩
 have hl2:(sortI is).length<=sizeLine:=by
  have:=a2.length_eq
  have h5:=sizeLine_eq
  omega
 refine ⟨by rw [Zl];exact hl2,out.toList,e,vals_ints a1,?_⟩
 rw [he]
noncomputable def sortedA:MF:=fun ds μ=>match sortIM ds μ with
 | some r=>some r
 | none=>sortedM ds μ
theorem sortedA_ok {K:PySem.W.Frag}:CallD K sortedA (fun xs H Q=>rSortI K xs H Q\/rSortT K xs H Q):=by
 intro π H μ xs d μ' vs Q R i hm k
 unfold sortedA at hm
 split at hm
 ·rename_i r hr
  cases hm
  exact .inl (sortIM_ok π H μ xs d μ' vs Q R i hr k)
 ·exact .inr (sortedM_ok π H μ xs d μ' vs Q R i hm k)
end L3
namespace L3
open PySem L2
section
variable {X:Cx}
end
noncomputable def listRngM:MF:=fun ds μ=>match ds with
 | [.int j]=>if 0<=j/\j<=2 ^ 20 then some (.loc μ.length,μ++[.lst ((List.range j.toNat).map fun (i:Nat)=>D.int (i:Int))]) else none
 | _=>none
section
variable {prog:Program}{w:World}{A:Around}{E:Value->Shared->Prop}{s:Shared}{r:Addr}{Q:Bool->Shared->Prop}
end
section
variable {prog:Program}{w:World}{A:Around}{E:Value->Shared->Prop}{s:Shared}{p a:Addr}{its:Array Value}
end
end L3
namespace L3
open PySem L2
end L3
namespace L3
open PySem L2
noncomputable abbrev PsT:=List (List Int×Addr×V)
noncomputable def xsT (ps:PsT)(ws:List Value):List (List Int×Addr×Value):=List.zipWith (fun p w=>(p.1,p.2.1,w)) ps ws
theorem ents_is {P:Program}{w:World}:∀ (ps:PsT)(ws:List Value),List.zipWith entT ps ws=(xsT ps ws).map (entryOfKey (tupleKind (intKind P w)))
 | [],_=>by simp [xsT]
 | p::ps,[]=>by simp [xsT]
 | p::ps,u::ws=>by
  have ih:=ents_is (P:=P) (w:=w) ps ws
  unfold xsT at ih ⊢
  rw [List.zipWith_cons_cons,List.zipWith_cons_cons,List.map_cons,ih]
  rfl
theorem xsT_keys:∀ {ps:PsT}{ws:List Value},Vals (ps.map (·.2.2)) ws->(xsT ps ws).map (·.1)=ps.map (·.1)
 | [],_,_=>by simp [xsT]
 | p::ps,_,.cons r t=>by
  have ih:=xsT_keys (ps:=ps) t
  unfold xsT at ih ⊢
  rw [List.zipWith_cons_cons,List.map_cons,List.map_cons,ih]
theorem xsT_mem:∀ {ps:PsT}{ws:List Value}{x:List Int×Addr×Value},x∈xsT ps ws->∃ p∈ps,p.1=x.1/\p.2.1=x.2.1
 | [],_,x,h=>by simp [xsT] at h
 | p::ps,[],x,h=>by simp [xsT] at h
 | p::ps,u::ws,x,h=>by
  unfold xsT at h
  rw [List.zipWith_cons_cons] at h
  rcases List.mem_cons.mp h with e|h
  ·subst e;exact ⟨p,List.mem_cons_self ..,rfl,rfl⟩
  ·obtain ⟨q,hq,e⟩:=xsT_mem (ps:=ps) (ws:=ws) h
   exact ⟨q,List.mem_cons_of_mem _ hq,e⟩
noncomputable def valT (ps:PsT)(k:List Int):Option V:=(ps.find? fun p=>decide (p.1=k)).map (·.2.2)
noncomputable def putT (ps:PsT)(k:List Int)(b:Addr)(v:V):PsT:=if (valT ps k).isSome then ps.map (fun p=>if p.1=k then (p.1,p.2.1,v) else p) else ps++[(k,b,v)]
theorem valT_rel:∀ {ps:PsT}{ws:List Value},Vals (ps.map (·.2.2)) ws->∀ k,RelO (valT ps k) ((atKey (xsT ps ws) k).map (·.2))
 | [],_,.nil,k=>by simp [valT,xsT,atKey];exact True.intro
 | p::ps,_,.cons r t,k=>by
  have ih:=valT_rel (ps:=ps) t k
  unfold valT atKey xsT at ih ⊢
  rw [List.zipWith_cons_cons,List.find?_cons,List.find?_cons]
  by_cases e:p.1=k
  ·simp only [e,decide_true]
   exact r
  ·simp only [e,decide_false]
   exact ih
theorem putT_len (ps:PsT)(k:List Int)(b:Addr)(v:V):(putT ps k b v).length<=ps.length+1:=by
 unfold putT;split<;>simp
theorem repl_rel {k:List Int}{v:V}{u:Value}(ru:RelV v u):∀ {ps:PsT}{ws:List Value},Vals (ps.map (·.2.2)) ws->
  ∃ ws',Vals ((ps.map fun p=>if p.1=k then (p.1,p.2.1,v) else p).map (·.2.2)) ws'/\(xsT ps ws).map (putAt k u)=xsT (ps.map fun p=>if p.1=k then (p.1,p.2.1,v) else p) ws'
 | [],_,.nil=>⟨[],.nil,by simp [xsT]⟩
 | p::ps,_,.cons (b:=w) r t=>by
  obtain ⟨ws',h1,h2⟩:=repl_rel ru (ps:=ps) t
  by_cases e:p.1=k
  ·refine ⟨u::ws',?_,?_⟩
   ·rw [List.map_cons,List.map_cons,if_pos e]
    exact .cons ru h1
   ·unfold xsT at h2 ⊢
    rw [List.zipWith_cons_cons,List.map_cons,h2,List.map_cons,if_pos e,List.zipWith_cons_cons]
    unfold putAt
    rw [if_pos e]
  ·refine ⟨w::ws',?_,?_⟩
   ·rw [List.map_cons,List.map_cons,if_neg e]
    exact .cons r h1
   ·unfold xsT at h2 ⊢
    rw [List.zipWith_cons_cons,List.map_cons,h2,List.map_cons,if_neg e,List.zipWith_cons_cons]
    unfold putAt
    rw [if_neg e]
theorem xsT_snoc {k:List Int}{b:Addr}{v:V}{u:Value}:∀ {ps:PsT}{ws:List Value},Vals (ps.map (·.2.2)) ws->xsT ps ws++[(k,b,u)]=xsT (ps++[(k,b,v)]) (ws++[u])
 | [],_,.nil=>by simp [xsT]
 | p::ps,_,.cons r t=>by
  have ih:=xsT_snoc (k:=k) (b:=b) (v:=v) (u:=u) (ps:=ps) t
  unfold xsT at ih ⊢
  rw [List.zipWith_cons_cons,List.cons_append,ih,List.cons_append,List.cons_append,List.zipWith_cons_cons]
theorem putT_rel {ps:PsT}{ws:List Value}(r:Vals (ps.map (·.2.2)) ws)(k:List Int)(b:Addr){v:V}{u:Value}(ru:RelV v u) :
  ∃ ws',Vals ((putT ps k b v).map (·.2.2)) ws'/\storedH (xsT ps ws) k b u=xsT (putT ps k b v) ws':=by
 have e:=(valT_rel r k).isSome_eq
 rw [Option.isSome_map] at e
 unfold putT storedH
 rw [e]
 by_cases h:(atKey (xsT ps ws) k).isSome=true
 ·rw [if_pos h,if_pos h]
  exact repl_rel ru r
 ·rw [if_neg h,if_neg h]
  refine ⟨ws++[u],?_,xsT_snoc r⟩
  rw [List.map_append]
  exact Paired.snoc r ru
section
variable {X:Cx}{pins:List (Addr×Obj)}{σ:St}{H:Hp}{s:Shared}{a:Addr}{ps:PsT}
noncomputable def KeysT (K:PySem.W.Frag)(H:Hp)(ps:PsT):Prop:=∀ p∈ps,SqT K H p.2.1 (p.1.map V.int)
theorem dT_at (I:Inv X pins σ H s)(e:H a=some (DicT a ps))(hk:KeysT X.K H ps):(a == sysModules)=false/\ps.length<=sizeLine /\
  ∃ ws,Vals (ps.map (·.2.2)) ws/\s.heap.DictOfH (tupleKind (intKind X.prog X.w)) a (xsT ps ws):=by
 obtain ⟨⟨ws,r,hs,hl,o,es,ep,h1,h2,h3,h4,h5⟩,_⟩:=(show ObjOk X.prog X.w H s.heap a (DicT a ps) from I.hok a _ e)
 refine ⟨hs,hl,ws,r,o,es,ep,h1,h2,h3,by rw [h4];exact ents_is ps ws,fun x hx=>?_,by rw [xsT_keys r];exact h5⟩
 obtain ⟨p,hp,e1,e2⟩:=xsT_mem hx
 rw [<- e1,<- e2]
 exact isT_of I (hk p hp)
theorem dT_new {P:Program}{w:World}{H':Hp}{h':Heap}{ws:List Value}(hs:(a == sysModules)=false)(hl:ps.length<=sizeLine)(r:Vals (ps.map (·.2.2)) ws)(d:h'.DictOfH (tupleKind (intKind P w)) a (xsT ps ws)):ObjOk P w H' h' a (DicT a ps):=by
 obtain ⟨o,es,ep,h1,h2,h3,h4,_,h5⟩:=d
 refine ⟨⟨ws,r,hs,hl,o,es,ep,h1,h2,h3,by rw [h4,ents_is (P:=P) (w:=w)],by rw [<- xsT_keys r];exact h5⟩,⟨o,h1⟩,?_⟩
 rintro g1 g2 ⟨ws,r,hs,hl,o,es,ep,h1,h2,h3,h4,h5⟩ hh
 exact ⟨ws,r,hs,hl,o,es,ep,hh o h1,h2,h3,h4,h5⟩
theorem dT_type (I:Inv X pins σ H s)(e:H a=some (DicT a ps))(hk:KeysT X.K H ps):s.TypeIs (.ref a) "dict":=by
 obtain ⟨_,_,ws,_,d⟩:=dT_at I e hk
 exact d.typeIs
theorem room_T {A:Around}(hu:A.units+1<cLine):(tupleKind (intKind X.prog X.w)).room A.in1:=by
 show A.in1.units<cLine
 rw [in1_units];omega
variable {A:Around}{E:Value->Shared->Prop}{b:Addr}{k:List Int}{v:V}
theorem dT_get {Q:Value->Shared->Prop}(hu:A.units+1<cLine)(I:Inv X pins σ H s)(e:H a=some (DicT a ps))(hk:KeysT X.K H ps)(hb:SqT X.K H b (k.map V.int))(hv:valT ps k=some v)
  (h:∀ w' s',Inv X pins σ H s'->RelV v w'->Q w' s'):wpAny (model X.prog X.w) A (getItem (.ref a) (.ref b)) Q E s:=by
 obtain ⟨hs,hl,ws,r,d⟩:=dT_at I e hk
 obtain ⟨w',hw,rw'⟩:=RelO.some_of (v:=v) (o:=(atKey (xsT ps ws) k).map (·.2)) (by rw [<- hv];exact valT_rel r k)
 obtain ⟨p,hp,hp2⟩:=Zm.mp hw
 refine wpAny_getItem_heap (room_T hu) (isT_of I hb) d hp ?_
 rw [hp2]
 exact h w' _ (I.tok _) rw'
theorem dT_in {Q:Value->Shared->Prop}(hu:A.units+1<cLine)(I:Inv X pins σ H s)(e:H a=some (DicT a ps))(hk:KeysT X.K H ps)(hb:SqT X.K H b (k.map V.int))
  (h:∀ s',Inv X pins σ H s'->Q (.bool (valT ps k).isSome) s'):wpAny (model X.prog X.w) A (compareOp .In (.ref b) (.ref a)) Q E s:=by
 obtain ⟨hs,hl,ws,r,d⟩:=dT_at I e hk
 refine wpAny_in_heap (room_T hu) (isT_of I hb) hs d ?_
 have q:=(valT_rel r k).isSome_eq
 rw [Option.isSome_map] at q
 rw [<- q]
 exact h _ (I.tok _)
theorem dT_notIn {Q:Value->Shared->Prop}(hu:A.units+1<cLine)(I:Inv X pins σ H s)(e:H a=some (DicT a ps))(hk:KeysT X.K H ps)(hb:SqT X.K H b (k.map V.int))
  (h:∀ s',Inv X pins σ H s'->Q (.bool (!(valT ps k).isSome)) s'):wpAny (model X.prog X.w) A (compareOp .NotIn (.ref b) (.ref a)) Q E s:=by
 obtain ⟨hs,hl,ws,r,d⟩:=dT_at I e hk
 refine PyProof.Rows.wpAny_notIn_heap (room_T hu) (isT_of I hb) hs d ?_
 have q:=(valT_rel r k).isSome_eq
 rw [Option.isSome_map] at q
 rw [<- q]
 exact h _ (I.tok _)
theorem dT_set {Q:Unit->Shared->Prop}{u:Value}(hu:A.units+1<cLine)(I:Inv X pins σ H s)(e:H a=some (DicT a ps))(hk:KeysT X.K H ps)(hb:SqT X.K H b (k.map V.int))(hz:ps.length<sizeLine)(ru:RelV v u)
  (h:∀ s',Inv X pins σ (upd H a (DicT a (putT ps k b v))) s'->Q () s'):wpAny (model X.prog X.w) A (setItem (.ref a) (.ref b) u) Q E s:=by
 obtain ⟨hs,hl,ws,r,d⟩:=dT_at I e hk
 have hx:(xsT ps ws).length<=sizeLine:=by
  have:=congrArg List.length (xsT_keys r)
  rw [Zl,Zl] at this
  omega
 refine wpAny_setItem_heap (hsz:=hx) (room_T hu) (isT_of I hb) d fun h' d' hs'=>h _ ?_
 obtain ⟨ws',r',ex⟩:=putT_rel r k b ru
 rw [ex] at d'
 have he:∃ q,h'.get? a=some q:=let ⟨q,_,_,hq,_⟩:=d';⟨q,hq⟩
 exact d_write I (by rw [e];exact True.intro) hs' he (dT_new hs (by have:=putT_len ps k b v;omega) r' d')
end
noncomputable def IsTs (K:PySem.W.Frag)(π:Nat->Addr)(n:Nat)(H:Hp):PsT->List (List Int×D)->Prop:=Paired fun p q=>p.1=q.1/\SqT K H p.2.1 (p.1.map V.int)/\IsD K π n H p.2.2 q.2
section
variable {K:PySem.W.Frag}{π:Nat->Addr}{n:Nat}{H:Hp}{μ:Hm}
theorem tup_int {b:Addr}{k:List Int}(h:IsD K π n H (.ref b) (.tup (k.map D.int))):SqT K H b (k.map V.int):=by
 cases h with
 | tup q t=>rw [ints_of' t] at q;exact q
theorem IsTs.of:∀ {ps:PsT}{kvs:List (List Int×D)},ps.map (·.1)=kvs.map (·.1)->IsDs K π n H (ps.map fun p=>V.ref p.2.1) (kvs.map fun k=>D.tup (k.1.map D.int))->IsDs K π n H (ps.map (·.2.2)) (kvs.map (·.2))->IsTs K π n H ps kvs
 | [],[],_,_,_=>.nil
 | [],_::_,h,_,_=>by cases h
 | _::_,[],h,_,_=>by cases h
 | p::ps,q::kvs,h,h2,h3=>by
  cases h2 with
  | cons k1 k2=>
   cases h3 with
   | cons v1 v2=>
    rw [List.map_cons,List.map_cons,List.cons.injEq] at h
    refine .cons ⟨h.1,?_,v1⟩ (IsTs.of h.2 k2 v2)
    rw [h.1]
    exact tup_int k1
theorem IsTs.keys:∀ {ps:PsT}{kvs:List (List Int×D)},IsTs K π n H ps kvs->KeysT K H ps
 | _,_,.nil=>fun p hp=>nomatch hp
 | _,_,.cons h t=>fun p hp=>by
  rcases List.mem_cons.mp hp with e|hp
  ·subst e;exact h.2.1
  ·exact IsTs.keys t p hp
theorem IsTs.to:∀ {ps:PsT}{kvs:List (List Int×D)},IsTs K π n H ps kvs->ps.map (·.1)=kvs.map (·.1)/\IsDs K π n H (ps.map fun p=>V.ref p.2.1) (kvs.map fun k=>D.tup (k.1.map D.int))/\IsDs K π n H (ps.map (·.2.2)) (kvs.map (·.2))
 | _,_,.nil=>⟨rfl,.nil,.nil⟩
 | _,_,.cons (a:=p) (b:=q) h t=>by
  obtain ⟨h1,h2,h3⟩:=IsTs.to t
  refine ⟨by rw [List.map_cons,List.map_cons,h.1,h1],.cons ?_ h2,.cons h.2.2 h3⟩
  show IsD K π n H (.ref p.2.1) (.tup (q.1.map D.int))
  rw [<- h.1]
  exact .tup h.2.1 (isInts p.1)
theorem IsTs.val (k:List Int):∀ {ps:PsT}{kvs:List (List Int×D)},IsTs K π n H ps kvs->(valT ps k=none/\valDT kvs k=none)\/∃ v d,valT ps k=some v/\valDT kvs k=some d/\IsD K π n H v d
 | _,_,.nil=>.inl ⟨rfl,rfl⟩
 | _,_,.cons (a:=p) (b:=q) h t=>by
  have ih:=IsTs.val k t
  unfold valT valDT at ih ⊢
  rw [List.find?_cons,List.find?_cons,<- h.1]
  by_cases e:p.1=k
  ·simp only [e,decide_true]
   exact .inr ⟨_,_,rfl,rfl,h.2.2⟩
  ·simp only [e,decide_false]
   exact ih
theorem IsTs.put {ps:PsT}{kvs:List (List Int×D)}(h:IsTs K π n H ps kvs)(k:List Int){b:Addr}{v:V}{d:D}(hb:SqT K H b (k.map V.int))(hv:IsD K π n H v d):IsTs K π n H (putT ps k b v) (putDT kvs k d):=by
 have e:(valT ps k).isSome=(valDT kvs k).isSome:=by
  rcases h.val k with ⟨h1,h2⟩|⟨v,d,h1,h2,_⟩<;>rw [h1,h2]<;>rfl
 have repl:∀ {ps:PsT}{kvs:List (List Int×D)},IsTs K π n H ps kvs->IsTs K π n H (ps.map fun p=>if p.1=k then (p.1,p.2.1,v) else p) (kvs.map fun p=>if p.1=k then (p.1,d) else p):=by
  intro ps kvs h
  unfold IsTs at h
  induction h with
  | nil=>exact .nil
  | @cons p q ps qs h t ih=>
   rw [List.map_cons,List.map_cons]
   refine .cons ?_ ih
   by_cases z:p.1=k
   ·rw [if_pos z,if_pos (h.1.symm.trans z)]
    exact ⟨h.1,h.2.1,hv⟩
   ·rw [if_neg z,if_neg fun y=>z (h.1.trans y)]
    exact h
 unfold putT putDT
 rw [e]
 split
 ·exact repl h
 ·exact Paired.snoc h ⟨rfl,hb,hv⟩
theorem dT_rp {a:Nat}{kvs:List (List Int×D)}(R:Rp K π H μ)(h:μ[a]? = some (.dT kvs)):∃ ps,H (π a)=some (DicT (π a) ps)/\IsTs K π μ.length H ps kvs:=by
 obtain ⟨ps,h1,h2,h3,h4⟩:=R.dT a kvs h
 exact ⟨ps,h1,.of h2 h3 h4⟩
theorem keyT_of {v:V}{x:D}{k:List Int}(h:IsD K π n H v x)(e:keyT x=some k):∃ b,v=.ref b/\SqT K H b (k.map V.int):=by
 have:=keyT_eq e
 subst this
 cases h with
 | tup q t=>rw [ints_of' t] at q;exact ⟨_,rfl,q⟩
end
noncomputable def mDNewT:ME:=fun _ μ=>some (.loc μ.length,μ++[.dT []])
section
variable {X:Cx}{pos:Pos}
theorem dT_empty {P:Program}{w:World}{H:Hp}(h:Heap)(hb:sysModules<h.objs.size):ObjOk P w H (h.push { cls:=.type "dict",data:=.dict #[] }) h.objs.size (DicT h.objs.size []):=
 dT_new (ws:=[]) (beq_eq_false_iff_ne.mpr (Ne.symm (Nat.ne_of_lt hb))) (Nat.zero_le _) .nil (Heap.DictOfH.new h)
noncomputable def tDNewX:TE:=fun _ H Q=>∀ p,H p=none->Q (.ref p) (upd H p (DicT p []))
theorem pe_dnewX:PE X (.Dict [] [] pos) tDNewX:=fun pins s σ H Q I h=>
 wpAny_Dict_empty ⟨.ref s.heap.objs.size,_,I.laid (a:=s.heap.objs.size) (o:=DicT s.heap.objs.size []) (t':=s.toks) (fun _ _ q=>Heap.get?_push_of_some _ q) (Nat.le_refl _) (dT_empty s.heap I.big),rfl,h _ (I.hok.fresh (Nat.le_refl _))⟩
theorem e_dnewT:QE X (.Dict [] [] pos) mDNewT:=⟨pm_weak pe_dnewX (by
 rintro σ H Q ⟨π,ρ,μ,d,μ',R,E,hm,k⟩ p hp
 cases hm
 obtain ⟨e1,R1,q1⟩:=R.alloc (c:=.dT []) (o:=DicT p []) hp ⟨[],rfl,rfl,.nil,.nil⟩
 exact k _ _ _ e1 R1 alloc_loc)⟩
end
noncomputable def dgetT:D->D->Hm->Option (D×Hm)
 | .loc a,y,μ=>match μ[a]? with
  | some (.dT kvs)=>(keyT y).bind fun k=>(valDT kvs k).map fun d=>(d,μ)
  | _=>none
 | _,_,_=>none
section
variable {X:Cx}{a b e:Expr}{ma mb me:ME}{pos tpos:Pos}{td ty tv:TE}
noncomputable def rGetT (K:PySem.W.Frag):R2:=fun x y H Q=>∃ a b ps k v,x=.ref a/\y=.ref b/\H a=some (DicT a ps)/\KeysT K H ps/\SqT K H b (k.map V.int)/\valT ps k=some v/\Q v H
theorem pe_dgetT (hu:X.A.units+1<cLine)(ho:PE X a td)(hi:PE X b ty)(hs:NoSl b):PE X (.Subscript a b pos) (fun σ H Q=>td σ H fun x H1=>ty σ H1 fun y H2=>rGetT X.K x y H2 Q):=by
 intro pins s σ H Q I h
 refine subD_of PySem.F.slot_dict_getitem.lookup hs (thn (ho pins s σ H _ I h) fun u s1 ⟨x,H1,I1,rx,q1⟩=>thn (hi pins s1 σ H1 _ I1 q1) fun iv s2 ⟨y,H2,I2,ry,a,b,ps,k,v,ex,ey,e,hk,hb,hv,q2⟩=>?_)
 subst ex ey
 obtain rfl:u=Value.ref a:=rx
 obtain rfl:iv=Value.ref b:=ry
 exact ⟨dT_type I2 e hk,dT_get hu I2 e hk hb hv fun w' s3 I3 rw'=>⟨v,H2,I3,rw',q2⟩⟩
theorem dgetT_ok {K:PySem.W.Frag}:OpD K dgetT (rGetT K):=by
 intro π H μ x y d μ' vx vy Q R ix iy hm k
 unfold dgetT at hm
 split at hm
 ·split at hm
  ·rename_i kvs hc
   obtain ⟨kk,h1,hm⟩:=Zb.mp hm
   obtain ⟨d',h2,hm⟩:=Zm.mp hm
   cases hm
   cases ix
   obtain ⟨ps,e1,T⟩:=dT_rp R hc
   obtain ⟨b,rfl,hb⟩:=keyT_of iy h1
   rcases T.val kk with ⟨_,z⟩|⟨v,d2,z1,z2,z3⟩
   ·rw [z] at h2;cases h2
   ·rw [z2] at h2
    cases h2
    exact ⟨_,b,ps,kk,v,rfl,rfl,e1,T.keys,hb,z1,k π _ H .refl R z3⟩
  ·cases hm
 ·cases hm
theorem e_dgetT {k:Nat}(hr:Room k X.A)(ha:QE X a ma)(hb:QE X b mb)(h:noSlice b=true):QE X (.Subscript a b pos) (mOp dgetT ma mb):=⟨pm_weak (pe_dgetT (hu1 hr) ha.h hb.h (plainIx h)) (mOp_read dgetT_ok)⟩
end
theorem putDT_len (kvs:List (List Int×D))(k:List Int)(d:D):(putDT kvs k d).length<=kvs.length+1:=by
 unfold putDT;split<;>simp
section
variable {X:Cx}{o i e:Expr}{mo mi me:ME}{pos tpos:Pos}{td ty tv:TE}
noncomputable def sPutT (K:PySem.W.Frag)(td ty tv:TE):TS:=fun D σ H=>tv σ H fun v H1=>td σ H1 fun x H2=>ty σ H2 fun y H3=>∃ a b ps k,x=.ref a/\y=.ref b/\H3 a=some (DicT a ps)/\KeysT K H3 ps/\SqT K H3 b (k.map V.int)/\ps.length<sizeLine/\D.nx σ (upd H3 a (DicT a (putT ps k b v)))
theorem ps_dputT (hu:X.A.units+1<cLine)(ho:PE X o td)(hi:PE X i ty)(hv:PE X e tv)(hs:swapsWith e (some (.Subscript o i tpos)) pos.line X.env=pure false) :
  PS X (.Assign [.Subscript o i tpos] e pos) (sPutT X.K td ty tv):=by
 intro pins s σ H D I h
 refine wpAny_Assign_Subscript (thn (hv pins s σ H _ I h) fun r s1 ⟨v,H1,I1,rv,q1⟩=>thn (ho pins s1 σ H1 _ I1 q1) fun u s2 ⟨x,H2,I2,rx,q2⟩=>thn (hi pins s2 σ H2 _ I2 q2) fun iv s3 ⟨y,H3,I3,ry,a,b,ps,k,ex,ey,e,hk,hb,hz,q3⟩=>?_) hs
 subst ex ey
 obtain rfl:u=Value.ref a:=rx
 obtain rfl:iv=Value.ref b:=ry
 exact dT_set hu I3 e hk hb hz rv fun s4 I4=>⟨σ,_,I4,q3⟩
theorem s_putT {kk:Nat}(hr:Room kk X.A)(ho:QE X o mo)(hi:QE X i mi)(he:QE X e me)(h:noComp e=true):QS X (.Assign [.Subscript o i tpos] e pos) (mPutG putK2 mo mi me):=
 ⟨pms_weak (ps_dputT (hu_of hr) ho.h hi.h he.h (swaps_of h)) (by
 rintro E σ H ⟨π,ρ,μ,fl,ρ',μ',R,EN,hm,k⟩
 obtain ⟨⟨x,μ1⟩,h1,hm⟩:=Zb.mp hm
 obtain ⟨⟨y,μ2⟩,h2,hm⟩:=Zb.mp hm
 obtain ⟨⟨z,μ3⟩,h3,hm⟩:=Zb.mp hm
 obtain ⟨μ4,h4,hm⟩:=Zm.mp hm
 cases hm
 refine ⟨π,ρ,μ,x,μ1,R,EN,h1,fun π1 v1 H1 e1 R1 i1=>⟨π1,ρ,μ1,y,μ2,R1,EN.mono e1,h2,fun π2 v2 H2 e2 R2 i2=>⟨π2,ρ,μ2,z,μ3,R2,(EN.mono e1).mono e2,h3,fun π3 v3 H3 e3 R3 i3=>?_⟩⟩⟩
 cases y with
 | loc a=>
  simp only [putK2] at h4
  split at h4
  ·rename_i kvs hc
   obtain ⟨kk,h5,h4⟩:=Zb.mp h4
   split at h4
   ·rename_i hz
    cases h4
    have i2':=i2.mono e3
    cases i2' with
    | loc hlt=>
     obtain ⟨ps,f1,T⟩:=dT_rp R3 hc
     obtain ⟨b,rfl,hb⟩:=keyT_of i3 h5
     have hv:=(i1.mono e2).mono e3
     have T':=T.put kk hb hv
     obtain ⟨g1,g2,g3⟩:=T'.to
     have hpl:ps.length<sizeLine:=by
      have:=congrArg List.length (T.to).1
      rw [Zl,Zl] at this
      omega
     refine ⟨_,b,ps,kk,rfl,rfl,f1,T.keys,hb,hpl,?_⟩
     obtain ⟨e4,R4⟩:=R3.put (c:=.dT (putDT kvs kk x)) (o:=DicT _ (putT ps kk b v1)) hlt f1 (.inr (.inr ⟨_,rfl⟩)) ⟨_,rfl,g1,g2,g3⟩
     exact k π3 σ _ (((e1.trans e2).trans e3).trans e4) R4 ((((EN.mono e1).mono e2).mono e3).mono e4)
   ·cases h4
  ·cases h4
 | _=>simp [putK2] at h4)⟩
end
noncomputable def inT (neg:Bool):D->D->Hm->Option (D×Hm)
 | x,.loc a,μ=>match μ[a]? with
  | some (.dT kvs)=>(keyT x).map fun k=>(.bl (if neg then !(valDT kvs k).isSome else (valDT kvs k).isSome),μ)
  | _=>none
 | _,_,_=>none
noncomputable def rInT (K:PySem.W.Frag)(neg:Bool):R2:=fun x y H Q=>∃ a b ps k,x=.ref b/\y=.ref a/\H a=some (DicT a ps)/\KeysT K H ps/\SqT K H b (k.map V.int)/\Q (.bl (if neg then !(valT ps k).isSome else (valT ps k).isSome)) H
theorem op_inT {X:Cx}(hu:X.A.units+1<cLine):OpR X (compareOp .In) (rInT X.K false):=by
 intro pins s σ H x y v u Q I rx ry h
 obtain ⟨a,b,ps,k,rfl,rfl,e,hk,hb,q⟩:=h
 obtain rfl:v=Value.ref b:=rx
 obtain rfl:u=Value.ref a:=ry
 exact dT_in hu I e hk hb fun s' I'=>⟨.bl _,H,I',rfl,q⟩
theorem op_notInT {X:Cx}(hu:X.A.units+1<cLine):OpR X (compareOp .NotIn) (rInT X.K true):=by
 intro pins s σ H x y v u Q I rx ry h
 obtain ⟨a,b,ps,k,rfl,rfl,e,hk,hb,q⟩:=h
 obtain rfl:v=Value.ref b:=rx
 obtain rfl:u=Value.ref a:=ry
 exact dT_notIn hu I e hk hb fun s' I'=>⟨.bl _,H,I',rfl,q⟩
theorem inT_ok {K:PySem.W.Frag}{neg:Bool}:OpD K (inT neg) (rInT K neg):=by
 intro π H μ x y d μ' vx vy Q R ix iy hm k
 unfold inT at hm
 split at hm
 ·split at hm
  ·rename_i kvs hc
   obtain ⟨kk,h1,hm⟩:=Zm.mp hm
   cases hm
   cases iy
   obtain ⟨ps,e1,T⟩:=dT_rp R hc
   obtain ⟨b,rfl,hb⟩:=keyT_of ix h1
   have e:(valT ps kk).isSome=(valDT kvs kk).isSome:=by
    rcases T.val kk with ⟨h1,h2⟩|⟨v,d,h1,h2,_⟩<;>rw [h1,h2]<;>rfl
   refine ⟨_,b,ps,kk,rfl,rfl,e1,T.keys,hb,?_⟩
   rw [e]
   exact k π _ H .refl R (.bl _)
  ·cases hm
 ·cases hm
section
variable {X:Cx}{a b:Expr}{ma mb:ME}{pos:Pos}
end
end L3
namespace L3
open PySem L2
noncomputable def RawD (h:Heap)(d:Addr)(es:Array DictEntry)(ep:Nat):Prop:=∃ z,h.get? d=some z/\z.ExactDict/\z.data=.dict es ep
theorem RawD.ty {s:Shared}{d:Addr} {es ep} (g:RawD s.heap d es ep):s.TypeIs (.ref d) "dict":=let ⟨z,g1,g2,_⟩:=g;⟨z,g1,g2.1⟩
theorem RawD.stay {h h':Heap}{d:Addr} {es ep} (g:RawD h d es ep)(k:∀ o,h.get? d=some o->h'.get? d=some o):RawD h' d es ep:=let ⟨z,g1,g2⟩:=g;⟨z,k z g1,g2⟩
theorem RawD.lt {h:Heap}{d:Addr} {es ep} (g:RawD h d es ep):d<h.objs.size:=let ⟨_,g1,_⟩:=g;Heap.lt_size g1
section
variable {P:Program}{w:World}{A:Around}{E:Value->Shared->Prop}{s:Shared}{d it:Addr}{i ep:Nat}{es:Array DictEntry}
theorem it_T {Q:Value->Shared->Prop}(lo:(d == sysModules)=false)(g:RawD s.heap d es ep)
  (q:Q (.ref s.heap.objs.size) { s with heap:=s.heap.push { cls:=.type "dict_keyiterator",data:=.fields #[.ref d,.int 0 0,.int es.size 0,.int ep 0] } }):wpAny (model P w) A (pyIter (.ref d)) Q E s:=by
 obtain ⟨z,g1,g2,g3⟩:=id g
 refine wpAny_pyIter_slot g.ty F.slot_dict_iter (wpAny_call_entry F.slot_dict_iter g.ty F.entry_dict_iter ?_ (F.args_dict_iter_1 _))
 unfold Builtin.«dict.__iter__» Builtin.Dict.dictSlotNone
 refine wpAny_bind (wpAny_bind (wpAny_notOrdered_dict g.ty ?_))
 show wpAny _ _ (pure (Value.ref d)) _ _ _
 refine wpAny_pure ?_
 show wpAny _ _ (Builtin.Dict.showsAll d >>= _) _ _ _
 unfold Builtin.Dict.showsAll
 rw [if_neg (fun x=>Bool.false_ne_true (lo.symm.trans x))]
 refine wpAny_bind (wpAny_pure (wpAny_bind (wpAny_dictEntries g1 g3 (wpAny_bind (wpAny_dictEpoch g1 g3 (wpAny_bind (wpAny_newObj_type (wpAny_pure ?_))))))))
 exact ⟨_,rfl,"dict_keyiterator",_,⟨_,Heap.get?_push_size _ rfl,rfl⟩,F.slot_dict_keyiterator_next.lookup,by simpa [rawInt] using q⟩
theorem nx_T {Q:Option Value->Shared->Prop}(hh:A.handled=none)(j:s.heap.IsKeyIter it d i es.size ep)(g:RawD s.heap d es ep)
  (q1:∀ e h',es[i]? = some e->h'.IsKeyIter it d (i+1) es.size ep->Heap.SameBut it s.heap h'->Q (some e.key) { s with heap:=h' })
  (q2:es[i]? = none->∀ h',Heap.ExtBut it s.heap h'->Q none { s with heap:=h' }):wpAny (model P w) A (pyNext (.ref it)) Q E s:=by
 obtain ⟨y,j1,j2,j3⟩:=id j
 obtain ⟨z,g1,g2,g3⟩:=id g
 have nm:∀ {Q:String->Shared->Prop}{A:Around}{E:Value->Shared->Prop},Q "dict_keyiterator" s->wpAny (model P w) A (typeNameOfWhole (.ref it)) Q E s:=fun q=>wpAny_typeNameOfWhole_keyiter j.typeIs q
 unfold pyNext
 refine wpAny_bind (wpAny_attempt (wpAny_callSpecial?_slot (name:=Str.ofString "__next__") j.typeIs F.slot_dict_keyiterator_next (wpAny_call_entry F.slot_dict_keyiterator_next j.typeIs F.entry_dict_keyiterator_next ?_ (F.args_dict_keyiterator_next_1 _))))
 refine wpAny_bind (wpAny_pure (wpAny_bind (wpAny_bind (wpAny_bind (nm (wpAny_pure (wpAny_bind (wpAny_fieldsOf j1 j3 ?_))))))))
 simp only [show Builtin.Dict_items.ownsTuple "dict_keyiterator" = false by decide,Bool.false_eq_true,if_false]
 show wpAny _ _ (if (Value.ref d == Value.none)=true then _ else _) _ _ _
 rw [if_neg (show ¬ (Value.ref d == Value.none)=true from fun x=>Bool.false_ne_true x)]
 refine wpAny_bind (wpAny_pure (wpAny_bind (wpAny_dictEntries g1 g3 ?_)))
 rw [if_neg (fun x=>by simp at x)]
 refine wpAny_bind (wpAny_pure (wpAny_bind (wpAny_dictEpoch g1 g3 ?_)))
 rw [if_neg (fun x=>by simp at x)]
 refine wpAny_pure ?_
 simp only [if_neg (show ¬ ((i:Int)<0) by omega),Int.toNat_natCast]
 cases he:es[i]? with
 | some e=>
  refine wpAny_bind (wpAny_bind (nm (wpAny_pure (wpAny_bind (wpAny_isOneOf_keyiter j.typeIs ?_)))))
  show wpAny _ _ (setField (.ref it) 1 (rawInt ((i:Int)+1)) >>= _) _ _ _
  refine wpAny_bind (wpAny_setField j1 j3 (by simp) ?_)
  have j':(s.heap.update it (Obj.mapFields (·.setIfInBounds 1 (rawInt ((i:Int)+1))))).IsKeyIter it d (i+1) es.size ep:=
   ⟨_,Heap.get?_update_self _ j1 (Obj.isFreed_of_fields (Obj.data_mapFields j3 _)),(Obj.cls_mapFields ..).trans j2,by simp [Obj.data_mapFields j3,rawInt]⟩
  generalize hu:s.heap.update it (Obj.mapFields (·.setIfInBounds 1 (rawInt ((i:Int)+1))))=u at j'
  refine wpAny_bind (wpAny_holding (wpAny_bind (wpAny_isOneOf_keyiter (s:={ s with heap:=u }) j'.typeIs ?_)))
  show wpAny _ _ (pure e.key) _ _ _
  exact wpAny_pure (wpAny_pure ⟨_,rfl,wpAny_pure (q1 e u he j' (hu ▸ Heap.SameBut.update ..))⟩)
 | none=>
  refine wpAny_bind (wpAny_bind (nm (wpAny_pure ?_)))
  show wpAny _ _ (setField (.ref it) 0 .none >>= _) _ _ _
  refine wpAny_bind (wpAny_setField j1 j3 (by simp) ?_)
  show wpAny _ _ (newExc (.type "StopIteration") [] >>= _) _ _ _
  simp only [newExc,newTuple]
  refine wpAny_bind (wpAny_bind (wpAny_newObj_type ?_ (by size_fits)))
  refine wpAny_bind (m:=firstArgMember _ _) (wpAny_of_eq (a:=Value.none) (by first|rfl|(simp only [firstArgMember];rfl)) (wpAny_newObj_type ?_ (by size_fits)))
  simp only [raiseNew]
  refine wpAny_bind (wpAny_handled ?_)
  rw [show A.in1.handled=none from hh]
  refine wpAny_bind (wpAny_pure (wpAny_throw ?thrown))
  case thrown=>exact wpAny_bind (wpAny_isInstance (T:="StopIteration") (b:=true) ⟨_,Heap.get?_push_size _ rfl,rfl⟩ isSubtype_stop (wpAny_pure (q2 he _ (((Heap.SameBut.update ..).extBut.push _).push _))))
theorem walkT (hh:A.handled=none)(hne:d≠it)(es:Array DictEntry)(ep:Nat):Walks P w A it [it,d] [it] es.size (fun i v=>∃ e,es[i]? = some e/\v=e.key) (fun i h=>h.IsKeyIter it d i es.size ep/\RawD h d es ep) where
 sub:=fun b hb=>by rw [List.mem_singleton.mp hb];exact List.mem_cons_self ..
 frame:=fun _ _ _ st k=>⟨st.1.at fun o e=>k it (by simp) o e,st.2.stay fun o e=>k d (by simp) o e⟩
 item:=fun i s Q E hi st q=>nx_T hh st.1 st.2 (fun e h' he j' sb=>q _ h' s.toks ⟨e,he,rfl⟩ ⟨j',st.2.stay fun o ho=>sb.extBut d o hne ho⟩ fun b o hb ho=>sb.extBut b o (fun z=>hb (by simp [z])) ho) (fun he=>by simp at he;omega)
 done:=fun s Q E st q=>nx_T hh st.1 st.2 (fun e h' he=>by simp at he) (fun _ h' x=>q h' s.toks fun b o hb ho=>x b o (fun z=>hb (by simp [z])) ho)
 self:=fun _ _ _ _ st q=>wpAny_pyIter_keyiter st.1 q
theorem srcT (lo:(d == sysModules)=false):PySem.W.KdlSrc P w "dict" d d es.size (fun i v=>∃ e,es[i]? = some e/\v=e.key) (fun h=>RawD h d es ep) where
 type:=fun _ g=>g.ty
 there:=fun _ g=>⟨g.lt,g.lt⟩
 keep:=fun _ _ g k=>g.stay fun o e=>k d (.inl rfl) o e
 notList:=by decide
 notTuple:=by decide
 hint:=fun _ _ _ _ g q=>PySem.W.kdl_hint_dict g.ty q
 iter:=fun _ _ hh g=>⟨_,_,(fun _ _ q=>it_T lo g q),walkT hh (Nat.ne_of_lt g.lt) es ep,⟨⟨_,Heap.get?_push_size _ rfl,rfl,rfl⟩,g.stay fun o e=>Heap.get?_push_of_some _ e⟩⟩
theorem ln_T (lo:(d == sysModules)=false):MeetsIn P w (Builtin.«dict.__len__» ⟨[.ref d],[]⟩) (fun _ R s=>∃ es ep,RawD s.heap d es ep/\R (.ok (.ret (.int (es.size:Nat) s.toks))) { s with toks:=s.toks+1 }):=
 .of_wp fun A R s ⟨es,ep,⟨z,g1,g2,g3⟩,q⟩=>by
  show wpAny _ _ (dictSize d >>= _) _ _ _
  unfold dictSize
  refine wpAny_bind (wpAny_bind (wpAny_dictEntries g1 g3 (wpAny_pure ?_)))
  show wpAny _ _ (Builtin.Dict.pendingCount d >>= _) _ _ _
  refine wpAny_bind (wpAny_pendingCount_other lo (wpAny_ret_mkInt ?_))
  rw [Nat.add_zero];exact q
theorem len_T {Q:Value->Shared->Prop}(lo:(d == sysModules)=false)(g:RawD s.heap d es ep)(hz:es.size<=sizeLine)(q:Q (.int (es.size:Nat) (s.toks+1)) { s with toks:=s.toks+1+1 }):wpAny (model P w) A (call (.builtin "len") [.ref d]) Q E s:=
 PyProof.Rows.call_len_slot g.ty F.slot_dict_len (fun Q' q'=>call_meetsIn F.slot_dict_len g.ty F.entry_dict_len (F.args_dict_len_1 _) (ln_T lo) ⟨es,ep,g,q'⟩) (by omega) (by rw [sizeLine_eq] at hz;omega) q
end
theorem xsT_adr:∀ {ps:PsT}{ws:List Value},Vals (ps.map (·.2.2)) ws->(xsT ps ws).map (fun x=>Value.ref x.2.1)=ps.map fun p=>Value.ref p.2.1
 | [],_,_=>by simp [xsT]
 | p::ps,_,.cons r t=>by
  have ih:=xsT_adr (ps:=ps) t
  unfold xsT at ih ⊢
  rw [List.zipWith_cons_cons,List.map_cons,List.map_cons,ih]
theorem refs_rel:∀ ps:PsT,Vals (ps.map fun p=>V.ref p.2.1) (ps.map fun p=>Value.ref p.2.1)
 | []=>.nil
 | p::ps=>.cons rfl (refs_rel ps)
section
variable {X:Cx}{pins:List (Addr×Obj)}{σ:St}{H:Hp}{s:Shared}{a:Addr}{ps:PsT}
theorem dT_raw (I:Inv X pins σ H s)(e:H a=some (DicT a ps))(hk:KeysT X.K H ps):(a == sysModules)=false/\ps.length<=sizeLine/\∃ es ep,RawD s.heap a es ep/\es.toList.map (·.key)=ps.map fun p=>Value.ref p.2.1:=by
 obtain ⟨lo,hl,ws,r,z,es,ep,h1,h2,h3,h4,_⟩:=dT_at I e hk
 refine ⟨lo,hl,es,ep,⟨z,h1,h2,h3⟩,?_⟩
 rw [h4,List.map_map,<- xsT_adr r]
 rfl
noncomputable def rLenX (K:PySem.W.Frag):List V->Hp->VK->Prop:=fun xs H Q=>∃ a ps,xs=[V.ref a]/\H a=some (DicT a ps)/\KeysT K H ps/\Q (.int ps.length) H
theorem call_lenX:CallR X (.builtin "len") (rLenX X.K):=by
 intro pins s σ H xs us Q I r h
 obtain ⟨a,ps,rfl,ha,hk,q⟩:=h
 obtain ⟨u,rfl,ru⟩:=vals1 r
 cases ru
 obtain ⟨lo,hl,es,ep,g,he⟩:=dT_raw I ha hk
 have hs:es.size=ps.length:=by
  have:=congrArg List.length he
  simpa using this
 refine len_T lo g (by omega) ?_
 rw [hs]
 exact ⟨.int ps.length,H,(I.tok _).tok _,⟨_,rfl⟩,q⟩
noncomputable def rListX (K:PySem.W.Frag):List V->Hp->VK->Prop:=fun xs H Q=>∃ a ps,xs=[V.ref a]/\H a=some (DicT a ps)/\KeysT K H ps/\∀ l,H l=none->Q (.ref l) (upd H l (.lst (ps.map fun p=>V.ref p.2.1)))
theorem call_listX (hc:X.calm=true):CallR X (.type "list") (rListX X.K):=by
 intro pins s σ H xs us Q I r h
 obtain ⟨a,ps,rfl,ha,hk,q⟩:=h
 obtain ⟨u,rfl,ru⟩:=vals1 r
 cases ru
 obtain ⟨lo,hl,es,ep,g,he⟩:=dT_raw I ha hk
 have hs:es.size=ps.length:=by
  have:=congrArg List.length he
  simpa using this
 refine PySem.W.kdl_call (srcT lo) (I.ok.hd hc) g (by omega) fun h' tk acc' c' kp hS hacc=>?_
 refine ⟨.ref s.heap.objs.size,_,I.laid (t':=tk) (a:=s.heap.objs.size) (o:=.lst (ps.map fun p=>V.ref p.2.1)) kp (Nat.le_refl _) ?_,rfl,q _ (I.hok.fresh (Nat.le_refl _))⟩
 refine ⟨by rw [Zl];exact hl,acc'.toList,c',?_,by simpa using hS⟩
 have e2:acc'.toList=ps.map fun p=>Value.ref p.2.1:=by
  rw [<- he]
  refine List.ext_getElem? fun i=>?_
  rw [List.getElem?_map,Array.getElem?_toList,Array.getElem?_toList]
  cases hv:acc'[i]? with
  | some v=>
   obtain ⟨e,h1,h2⟩:=hacc.2 i v hv
   rw [h1,h2];rfl
  | none=>
   have:acc'.size<=i:=by simpa using hv
   rw [Array.getElem?_eq_none (by rw [<- hacc.1];exact this)];rfl
 rw [e2]
 exact refs_rel ps
end
section
variable {X:Cx}{a b o i e:Expr}{ma mb mo mi me:ME}{pos tpos:Pos}{k:Nat}
theorem e_item (hr:Room k X.A)(ha:QE X a ma)(hb:QE X b mb)(h:noSlice b=true):QE X (.Subscript a b pos) (mOp itD ma mb):=
 e_alt (e_alt (m:=mOp (fun x y μ=>match dgetT x y μ with|some r=>some r|none=>dgetD x y μ) ma mb) (e_dgetT hr ha hb h) (e_dget hr ha hb h) (mOp_alt fun x y μ r hm=>by
  split at hm
  ·rename_i z;rw [z];exact .inl hm
  ·exact .inr hm)) (e_ix ha hb h) (mOp_alt fun x y μ r hm=>by
  unfold itD at hm
  split at hm
  ·split at hm
   ·rename_i kvs hc
    refine .inl ?_
    simp only [dgetT,dgetD,hc]
    exact hm
   ·rename_i kvs hc
    refine .inl ?_
    simp only [dgetT,hc]
    rw [hm]
   ·exact .inr hm
  ·exact .inr hm)
noncomputable def inU (neg:Bool):D->D->Hm->Option (D×Hm):=fun x y μ=>match inT neg x y μ with
 | some r=>some r
 | none=>inSeq neg x y μ
theorem inU_alt {neg:Bool}(x y:D)(μ:Hm)(r:D×Hm)(h:inU neg x y μ=some r):inT neg x y μ=some r\/inSeq neg x y μ=some r:=by
 unfold inU at h
 split at h
 ·rename_i z;rw [z];exact .inl h
 ·exact .inr h
theorem inD_cut {neg:Bool}(x y:D)(μ:Hm)(r:D×Hm)(h:inD neg x y μ=some r):(∃ i j,x=.str i/\y=.str j)\/inU neg x y μ=some r:=by
 cases y with
 | loc a=>
  refine .inr ?_
  have e:inD neg x (.loc a) μ=(match μ[a]? with|some (.dT kvs)=>(keyT x).map fun k=>(D.bl (if neg then !(valDT kvs k).isSome else (valDT kvs k).isSome),μ)|_=>inSeq neg x (.loc a) μ):=by cases x<;>rfl
  rw [e] at h
  unfold inU
  simp only [inT]
  cases hc:μ[a]? with
  | none=>rw [hc] at h;exact h
  | some c=>
   rw [hc] at h
   cases c with
   | dT kvs=>dsimp only at h ⊢;rw [h]
   | _=>exact h
 | str j=>
  cases x with
  | str i=>exact .inl ⟨i,j,rfl,rfl⟩
  | _=>exact .inr h
 | _=>cases x<;>exact .inr h
theorem inD_alt (x y:D)(μ:Hm)(r:D×Hm)(h:inD false x y μ=some r):inStr x y μ=some r\/inU false x y μ=some r:=by
 rcases inD_cut x y μ r h with ⟨i,j,rfl,rfl⟩|z
 ·exact .inl h
 ·exact .inr z
theorem notInD_alt (x y:D)(μ:Hm)(r:D×Hm)(h:inD true x y μ=some r):notInStr x y μ=some r\/inU true x y μ=some r:=by
 rcases inD_cut x y μ r h with ⟨i,j,rfl,rfl⟩|z
 ·exact .inl h
 ·exact .inr z
theorem e_in (hr:Room k X.A)(ha:QE X a ma)(hb:QE X b mb)(h:noSet b=true):QE X (.Compare a [.In] [b] pos) (mOp (inD false) ma mb):=
 e_alt ⟨pm_cmp op_in_str inStr_ok ha.h hb.h (nomarkS h)⟩ (e_alt ⟨pm_cmp (op_inT (hu1 hr)) inT_ok ha.h hb.h (nomarkS h)⟩ ⟨pm_cmp (op_inD (hu9 hr)) inSeq_ok ha.h hb.h (nomarkS h)⟩ (mOp_alt inU_alt)) (mOp_alt inD_alt)
theorem e_notin (hr:Room k X.A)(ha:QE X a ma)(hb:QE X b mb)(h:noSet b=true):QE X (.Compare a [.NotIn] [b] pos) (mOp (inD true) ma mb):=
 e_alt ⟨pm_cmp op_notIn_str notInStr_ok ha.h hb.h (nomarkS h)⟩ (e_alt ⟨pm_cmp (op_notInT (hu1 hr)) inT_ok ha.h hb.h (nomarkS h)⟩ ⟨pm_cmp (op_notInD (hu9 hr)) inSeq_ok ha.h hb.h (nomarkS h)⟩ (mOp_alt inU_alt)) (mOp_alt notInD_alt)
theorem t_in (hr:Room k X.A)(ha:QE X a ma)(hb:QE X b mb)(h:noSet b=true):QT X (.Compare a [.In] [b] pos) (mTest (mOp (inD false) ma mb)):=
 t_alt ⟨pmt_cmp op_in_str inStr_ok ha.h hb.h (nomarkS h)⟩ (t_alt ⟨pmt_cmp (op_inT (hu1 hr)) inT_ok ha.h hb.h (nomarkS h)⟩ ⟨pmt_cmp (op_inD (hu9 hr)) inSeq_ok ha.h hb.h (nomarkS h)⟩ (mTest_alt (mOp_alt inU_alt))) (mTest_alt (mOp_alt inD_alt))
theorem t_notin (hr:Room k X.A)(ha:QE X a ma)(hb:QE X b mb)(h:noSet b=true):QT X (.Compare a [.NotIn] [b] pos) (mTest (mOp (inD true) ma mb)):=
 t_alt ⟨pmt_cmp op_notIn_str notInStr_ok ha.h hb.h (nomarkS h)⟩ (t_alt ⟨pmt_cmp (op_notInT (hu1 hr)) inT_ok ha.h hb.h (nomarkS h)⟩ ⟨pmt_cmp (op_notInD (hu9 hr)) inSeq_ok ha.h hb.h (nomarkS h)⟩ (mTest_alt (mOp_alt inU_alt))) (mTest_alt (mOp_alt notInD_alt))
noncomputable def putU:D->D->D->Hm->Option Hm:=fun o i d μ=>match putK2 o i d μ with
 | some r=>some r
 | none=>putK1 o i d μ
theorem s_put (hr:Room k X.A)(ho:QE X o mo)(hi:QE X i mi)(he:QE X e me)(h:noComp e=true):QS X (.Assign [.Subscript o i tpos] e pos) (mPut mo mi me):=
 s_alt (s_alt (m:=mPutG putU mo mi me) (s_putT hr ho hi he h) (s_putK hr ho hi he h) (mPutG_alt fun x y z μ r hm=>by
  unfold putU at hm
  split at hm
  ·rename_i q;rw [q];exact .inl hm
  ·exact .inr hm)) (s_putL ho hi he h) (mPutG_alt fun x y z μ r hm=>by
  unfold putM at hm
  split at hm
  ·split at hm
   ·rename_i a kvs hc
    refine .inl ?_
    unfold putU
    simp only [putK2,hc]
    exact hm
   ·refine .inl ?_
    unfold putU
    rw [hm]
   ·exact .inr hm
  ·cases hm)
end
end L3
namespace L3
open PySem L2
noncomputable def Itz (K:PySem.W.Frag)(a b:Addr):It:=
 ⟨fun i H=>∃ xs ys x y,SqL K H a xs/\SqL K H b ys/\xs[i]? = some x/\ys[i]? = some y,
   fun i H z H'=>∃ p v u,z=.ref p/\H p=none/\H'=upd H p (.tup [v,u])/\(∀ xs,SqL K H a xs->xs[i]? = some v)/\∀ ys,SqL K H b ys->ys[i]? = some u,
   fun i H=>∃ xs ys,SqL K H a xs/\SqL K H b ys/\(xs.length<=i\/ys.length<=i)⟩
theorem turn_zip {P:Program}{w:World}{K:PySem.W.Frag}{es:List Expr}{kx:Nat}{pt:Pos}{a b z ti to j1 j2:Addr}(A0:ZipApart z ti to j1 j2 a b) :
  Turn P w K (.Tuple es kx pt) (Itz K a b) [z,ti,to,j1,j2] z (fun i h=>IsZip h z ti to .none/\IsPair h ti (.ref j1) (.ref j2)/\(∃ u v,IsPair h to u v)/\h.IsListIter j1 a i/\h.IsListIter j2 b i) where
 mem:=by simp
 obj:=fun i h ⟨g1,g2,⟨u,v,g3⟩,g4,g5⟩ c hc=>by
  have hc':c=z\/c=ti\/c=to\/c=j1\/c=j2:=by simpa using hc
  rcases hc' with rfl|rfl|rfl|rfl|rfl
  ·exact ⟨_,g1,fun q e=>by
    have e':Data.fields _=Data.cell q:=e
    cases e'⟩
  ·exact ⟨_,g2,fun q e=>by
    have e':Data.seq _ _=Data.cell q:=e
    cases e'⟩
  ·exact ⟨_,g3,fun q e=>by
    have e':Data.seq _ _=Data.cell q:=e
    cases e'⟩
  ·obtain ⟨o,e1,c,d⟩:=g4
   exact ⟨o,e1,fun v e=>by rw [d] at e;cases e⟩
  ·obtain ⟨o,e1,c,d⟩:=g5
   exact ⟨o,e1,fun v e=>by rw [d] at e;cases e⟩
 keep:=fun i h h' ⟨g1,g2,⟨u,v,g3⟩,g4,g5⟩ k=>⟨k z (by simp) _ g1,k ti (by simp) _ g2,⟨u,v,k to (by simp) _ g3⟩,g4.at fun o e=>k j1 (by simp) o e,g5.at fun o e=>k j2 (by simp) o e⟩
 item:=by
  intro X hP hw hK hc i pins s σ H E I hf ⟨g1,g2,⟨u,v,g3⟩,g4,g5⟩ hg
  subst hP hw hK
  obtain ⟨xs,ys,x,y,hq,hq2,hx,hy⟩:=hg
  obtain ⟨its,rv,p,hz⟩:=I.list hq
  obtain ⟨its2,rv2,p2,hz2⟩:=I.list hq2
  obtain ⟨u1,hu1,ru1⟩:=rv.get hx
  obtain ⟨u2,hu2,ru2⟩:=rv2.get hy
  refine wpAny_pyNext_zip_item A0 g1 g2 g3 g4 g5 p.isList p2.isList (x:=u1) (y:=u2) (by simpa using hu1) (by simpa using hu2) fun h1 a1 a2 a3 a4 a5 a6 hk=>⟨_,rfl,wpAny_letOwnedTupleGo_zip a1 fun h2 b1 hs2=>?_⟩
  have ne:∀ {c o},s.heap.get? c=some o->s.heap.objs.size≠c:=fun e=>Nat.ne_of_gt (Heap.lt_size e)
  have l4:∃ o,s.heap.get? j1=some o:=let ⟨o,e,_⟩:=g4;⟨o,e⟩
  have l5:∃ o,s.heap.get? j2=some o:=let ⟨o,e,_⟩:=g5;⟨o,e⟩
  have ht2:h2.get? s.heap.objs.size=some { cls:=.type "tuple",data:=.seq #[u1,u2] }:=(hs2.2 _ (ne g1)).trans a5
  have hfr:H s.heap.objs.size=none:=I.hok.fresh (Nat.le_refl _)
  have g2':IsPair h2 ti (.ref j1) (.ref j2):=(hs2.2 _ A0.TIz).trans (hk _ _ A0.TIz A0.TITO A0.TIi1 A0.TIi2 g2)
  refine ⟨.ref s.heap.objs.size,upd H s.heap.objs.size (.tup [x,y]),?_,rfl,⟨s.heap.objs.size,x,y,rfl,hfr,rfl,fun ws hw=>by rw [I.list_inj hw hq];exact hx,fun ws hw=>by rw [I.list_inj hw hq2];exact hy⟩,
   ⟨b1,g2',⟨_,_,(hs2.2 _ A0.TOz).trans a2⟩,a3.extBut hs2.extBut A0.i1z,a4.extBut hs2.extBut A0.i2z⟩,fun c hb=>?_⟩
  ·refine turned_laid (s:=s) (h':=h2) (t':=s.toks) (ch:=[z,ti,to,j1,j2]) I (fun c oc hb ec=>?_) hf (Nat.le_refl _) ?_
   ·have hb':c≠z/\c≠ti/\c≠to/\c≠j1/\c≠j2:=by simpa using hb
    exact (hs2.2 c hb'.1).trans (hk c oc hb'.1 hb'.2.2.1 hb'.2.2.2.1 hb'.2.2.2.2 ec)
   ·exact ⟨by show (2:Nat)<=sizeLine;decide,[u1,u2],.cons ru1 (.cons ru2 .nil),_,ht2,rfl,0,rfl,rfl⟩
  ·have hb':c=z\/c=ti\/c=to\/c=j1\/c=j2:=by simpa using hb
   have hn:=(hf c hb).1
   rw [upd_ne]
   ·exact hn
   ·rcases hb' with rfl|rfl|rfl|rfl|rfl
    ·exact (ne g1).symm
    ·exact (ne g2).symm
    ·exact (ne g3).symm
    ·exact (ne l4.choose_spec).symm
    ·exact (ne l5.choose_spec).symm
 done:=by
  intro X hP hw hK hc i pins s σ H E I hf ⟨g1,g2,⟨u,v,g3⟩,g4,g5⟩ hg
  subst hP hw hK
  obtain ⟨xs,ys,hq,hq2,hx⟩:=hg
  obtain ⟨its,rv,p,hz⟩:=I.list hq
  obtain ⟨its2,rv2,p2,hz2⟩:=I.list hq2
  have hl:=rv.length
  have hl2:=rv2.length
  refine wpAny_pyNext_zip_end (I.ok.hd hc) A0 g1 g2 g3 g4 g5 p.isList p2.isList ?_ fun h' eb=>⟨rfl,turned_kept (t':=s.toks) (ch:=[z,ti,to,j1,j2]) I (fun c o hb e=>?_) hf⟩
  ·rcases hx with hx|hx
   ·exact .inl (by simp;omega)
   ·exact .inr (by simp;omega)
  ·have hb':c≠z/\c≠ti/\c≠to/\c≠j1/\c≠j2:=by simpa using hb
   exact eb c o hb'.1 hb'.2.2.1 hb'.2.2.2.1 hb'.2.2.2.2 e
 self:=fun _ _ _ _ _ ⟨g1,_⟩ h=>wpAny_pyIter_zip g1 h
noncomputable def srcZip (x y:D):Src:=fun μ i=>(seqD μ x).bind fun xs=>(seqD μ y).map fun ys=>(xs[i]?).bind fun d=>(ys[i]?).map fun e=>.tup [d,e]
noncomputable def iZipD (ms:MA):MI:=fun ρ μ=>(ms ρ μ).bind fun p=>match p.1 with
 | [x,y]=>(lstD p.2 x).bind fun xs=>(lstD p.2 y).map fun ys=>(srcZip x y,min xs.length ys.length+1,p.2)
 | _=>none
theorem lst_later {K:PySem.W.Frag}{π:Nat->Addr}{μ:Hm}{H:Hp}{v:V}{x:D}{xs:List D}(R:Rp K π H μ)(h:IsD K π μ.length H v x)(hs:lstD μ x=some xs):∃ p,v=.ref p/\(∃ vs,SqL K H p vs) /\
  ∀ π' μ' H',Ext π μ.length H π' μ'.length H'->Rp K π' H' μ'->∀ ys,seqD μ' x=some ys->∃ ws,SqL K H' p ws/\IsDs K π' μ'.length H' ws ys:=by
 obtain ⟨p,vs,rfl,hq,_⟩:=lst_of R h hs
 refine ⟨p,rfl,⟨vs,hq⟩,fun π' μ' H' e R' ys hy=>?_⟩
 have hl:lstD μ' x=some ys:=by
  cases x with
  | rol zs=>exact hy
  | loc b=>exact hy
  | _=>cases hs
 obtain ⟨p',ws,e1,q1,d1⟩:=lst_of R' (h.mono e) hl
 cases e1
 exact ⟨ws,q1,d1⟩
theorem wk_zip {K:PySem.W.Frag}{π:Nat->Addr}{μ:Hm}{H:Hp}{v v':V}{x y:D}{xs ys:List D}(R:Rp K π H μ)(h:IsD K π μ.length H v x)(h':IsD K π μ.length H v' y)(hs:lstD μ x=some xs)(hs':lstD μ y=some ys) :
  ∃ a b,v=.ref a/\v'=.ref b/\(∃ vs,SqL K H a vs)/\(∃ vs,SqL K H b vs)/\Wk K (Itz K a b) (srcZip x y) π μ.length H:=by
 obtain ⟨a,rfl,qa,la⟩:=lst_later R h hs
 obtain ⟨b,rfl,qb,lb⟩:=lst_later R h' hs'
 refine ⟨a,b,rfl,rfl,qa,qb,fun π' μ' H' i e R' z=>?_,fun π' μ' H' i d e R' z=>?_⟩
 ·obtain ⟨as,h1,z⟩:=Zb.mp z
  obtain ⟨bs,h2,z⟩:=Zm.mp z
  obtain ⟨ws,q1,d1⟩:=la π' μ' H' e R' as h1
  obtain ⟨us,q2,d2⟩:=lb π' μ' H' e R' bs h2
  refine ⟨ws,us,q1,q2,?_⟩
  rw [d1.length,d2.length]
  cases e1:as[i]? with
  | none=>exact .inl (Zn.mp e1)
  | some d=>
   cases e2:bs[i]? with
   | none=>exact .inr (Zn.mp e2)
   | some d'=>rw [e1,e2] at z;cases z
 ·obtain ⟨as,h1,z⟩:=Zb.mp z
  obtain ⟨bs,h2,z⟩:=Zm.mp z
  obtain ⟨d1',h3,z⟩:=Zb.mp z
  obtain ⟨d2',h4,h5⟩:=Zm.mp z
  subst h5
  obtain ⟨ws,q1,d1⟩:=la π' μ' H' e R' as h1
  obtain ⟨us,q2,d2⟩:=lb π' μ' H' e R' bs h2
  obtain ⟨w1,f1,k1⟩:=d1.get h3
  obtain ⟨w2,f2,k2⟩:=d2.get h4
  refine ⟨⟨ws,us,w1,w2,q1,q2,f1,f2⟩,?_⟩
  rintro y H2 ⟨t,v1,v2,rfl,hn,rfl,hv1,hv2⟩
  have m1:=hv1 ws q1
  have m2:=hv2 us q2
  rw [f1] at m1
  rw [f2] at m2
  cases m1
  cases m2
  obtain ⟨e2,R2⟩:=R'.fresh (o:=.tup [w1,w2]) hn
  exact ⟨e2,R2,.tup (.of upd_same) (.cons (k1.mono e2) (.cons (k2.mono e2) .nil))⟩
noncomputable def iZip (K:PySem.W.Frag)(ta:TA):TI:=fun σ H R=>ta σ H fun vs H1=>∃ a b,vs=[.ref a,.ref b]/\(∃ xs,SqL K H1 a xs)/\(∃ ys,SqL K H1 b ys)/\R (Itz K a b) H1
open PyProof.Rows in
theorem pi_zip {X:Cx}{a b:Expr}{ta:TA}{p pos pt:Pos}{es:List Expr}{kx:Nat}(hg:Gl X "zip") (hm:X.mg "zip" = none) (ha:PA X [a,b] ta)(hs:starEach [a,b] X.env=(false,eval a X.env)::starEach [b] X.env)(hs2:(backTo pos (starEach [b] X.env)).any (·.1)=false) :
  PI X (.Tuple es kx pt) (.Call (.Name "zip" p) [a,b] [] pos) (iZip X.K ta):=by
 intro pins s σ H R I h
 refine Call_ (ld_blt I hg hm Boot.«zip» (PyProof.Rows.callWith_type1 (thn (ha pos pins s σ H _ I h) fun us s1 ⟨vs,H1,I1,r1,q1⟩=>?_) hs hs2))
 obtain ⟨a0,b0,rfl,⟨ws,hq⟩,⟨ws2,hq2⟩,q⟩:=q1
 cases r1 with
 | cons ru rr=>
  cases rr with
  | cons ru2 rr=>
   cases rr
   cases ru
   cases ru2
   obtain ⟨its,rv,pl,hz⟩:=I1.list hq
   obtain ⟨its2,rv2,pl2,hz2⟩:=I1.list hq2
   have la:a0<s1.heap.objs.size:=let ⟨_,e,_⟩:=pl.isList;Heap.lt_size e
   have lb:b0<s1.heap.objs.size:=let ⟨_,e,_⟩:=pl2.isList;Heap.lt_size e
   refine call_zip_2 pl.isList pl2.isList fun h' g1 g2 g3 g4 g5 hsz hk=>wpAny_pyIter_zip g1 ?_
   have I2:Inv X pins σ H1 { s1 with heap:=h' }:=I1.kept (t':=s1.toks) hk
   have ap:ZipApart (s1.heap.objs.size+4) (s1.heap.objs.size+2) (s1.heap.objs.size+3) s1.heap.objs.size (s1.heap.objs.size+1) a0 b0:=by
    have la':@LT.lt Nat _ a0 s1.heap.objs.size:=la
    have lb':@LT.lt Nat _ b0 s1.heap.objs.size:=lb
    constructor<;>(show @Ne Nat _ _;omega)
   refine ⟨s1.heap.objs.size+4,[s1.heap.objs.size+4,s1.heap.objs.size+2,s1.heap.objs.size+3,s1.heap.objs.size,s1.heap.objs.size+1],_,_,H1,rfl,I2,turn_zip ap,⟨g1,g2,⟨_,_,g3⟩,g4,g5⟩,fun c hc=>?_,q⟩
   have hle:s1.heap.objs.size<=c:=by
    simp only [List.mem_cons,List.not_mem_nil,or_false] at hc
    rcases hc with rfl|rfl|rfl|rfl|rfl<;>first|exact Nat.le_add_right _ _|exact Nat.le_refl _
   exact I1.fpOk hle (I1.hok.fresh hle)
theorem j_zip {X:Cx}{a b:Expr}{ms:MA}{n:Nat}{p pos:Pos}(hgl:Gl X "zip") (hmg:X.mg "zip" = none) (ha:QA X [a,b] ms n):QJT X (.Call (.Name "zip" p) [a,b] [] pos) (iZipD ms):=⟨fun es kx pt pins s σ H R I hw=>by
 have hs:=ha.s
 rw [List.all_cons,Bool.and_eq_true,List.all_cons,Bool.and_eq_true] at hs
 obtain ⟨π,ρ,μ,src,n',μ',Rr,E,hm,k⟩:=hw
 obtain ⟨⟨x,μ1⟩,h1,hm⟩:=Zb.mp hm
 refine pi_zip hgl hmg ha.h (star_cons hs.1) (by rw [star_cons hs.2.1];rfl) pins s σ H R I ⟨π,ρ,μ,x,μ1,Rr,E,h1,fun π1 vs H1 e1 R1 i1=>?_⟩
 dsimp only at hm
 split at hm
 ·rename_i x y
  obtain ⟨xs,h2,hm⟩:=Zb.mp hm
  obtain ⟨ys,h3,hm⟩:=Zm.mp hm
  cases hm
  cases i1 with
  | cons i1 t1=>
   cases t1 with
   | cons i2 t2=>
    cases t2
    obtain ⟨a0,b0,rfl,rfl,qa,qb,W⟩:=wk_zip R1 i1 i2 h2 h3
    exact ⟨a0,b0,rfl,qa,qb,k π1 H1 _ e1 R1 W⟩
 ·cases hm⟩
end L3
namespace L3
open PySem L2
section
variable {P:Program}{w:World}{A:Around}{E:Value->Shared->Prop}{s:Shared}{a:Addr}
theorem keys_miss:typeLookup (.type "tuple") "keys" = pure none:=by rw [typeLookup_type,builtinLookup_eq_fast];kernel_rfl
theorem no_keys {o:Obj}{xs:Array Value}{k:Nat}{Q:Option Value->Shared->Prop}(g:s.heap.get? a=some o)(g1:o.cls=.type "tuple") (g2:o.data=.seq xs k)(g3:o.dict=none)(hA:A.handled=none)
  (q:∀ h' tk,(∀ b u,s.heap.get? b=some u->h'.get? b=some u)->Q none { s with heap:=h',toks:=tk }):wpAny (model P w) A (getAttr? (.ref a) "keys") Q E s:=by
 obtain ⟨c,dct,dat,sl⟩:=o
 dsimp only at g1 g2 g3
 subst g1 g2 g3
 obtain ⟨hp,gs,dr,tk,os⟩:=s
 have ty:∀ tk',(⟨hp,gs,dr,tk',os⟩:Shared).TypeIs (.ref a) "tuple":=fun _=>⟨_,g,rfl⟩
 have e1:=sub_AttributeError
 have e2:=F.slot_tuple_getattribute.lookup
 have e3:=F.slot_tuple_getattribute.bind (.ref a)
 have e4:=am_tuple_getattr_none
 unfold getAttr? getAttrBy? getAttrBy
 repeat (any_goals (first|assumption|exact ty _|((with_reducible show wpAny _ _ (call (Value.builtin "tuple.__getattribute__") _ _) _ _ _);refine call_meets F.slot_tuple_getattribute (ty _) am_entry_tuple_getattribute (F.args_tuple_getattribute_2 _ _) (meets_getattribute_miss_tuple a xs k sl "keys" _ keys_miss (by decide +kernel)) ⟨g,hA,fun h' tk' e ne=>?_⟩)|wp_step))
 obtain ⟨y1,y2,there⟩:=ne.there
 show wpAny _ _ (getattributeRaised _ _ _ _ none false false) _ _ _
 unfold getattributeRaised
 repeat (any_goals (first|assumption|wp_step))
 exact q _ _ ne.of.keeps
end
theorem upd_entry:entryFor table "dict.update.loop" = some Builtin.«dict.update.loop»:=entryFor_of_tree (by kernel_rfl)
theorem upd_plain:plainId "dict.update.loop" = true:=by decide +kernel
noncomputable def foldT (ps:PsT):List (Addr×List Int×Addr×V)->PsT
 | []=>ps
 | r::L=>foldT (putT ps r.2.1 r.2.2.1 r.2.2.2) L
section
variable {X:Cx}{pins:List (Addr×Obj)}{σ:St}{A:Around}{E:Value->Shared->Prop}{d:Addr}
theorem dT_put {H:Hp}{s:Shared}{b:Addr}{k:List Int}{v:V}{u:Value}{ps:PsT}{Q:Unit->Shared->Prop}(hu:A.units<cLine)(I:Inv X pins σ H s)(e:H d=some (DicT d ps))(hk:KeysT X.K H ps)(hb:SqT X.K H b (k.map V.int))(hz:ps.length<sizeLine)(ru:RelV v u)
  (h:∀ s',Inv X pins σ (upd H d (DicT d (putT ps k b v))) s'->(∀ c o,c≠d->s.heap.get? c=some o->s'.heap.get? c=some o)->Q () s'):wpAny (model X.prog X.w) A (dictSet d (.ref b) u) Q E s:=by
 obtain ⟨hs,hl,ws,r,dd⟩:=dT_at I e hk
 have hx:(xsT ps ws).length<=sizeLine:=by
  have:=congrArg List.length (xsT_keys r)
  rw [Zl,Zl] at this
  omega
 refine wpAny_dictSet_heap (hsz:=hx) (show (tupleKind (intKind X.prog X.w)).room A from hu) (isT_of I hb) dd fun h' d' hs'=>h _ ?_ fun c o hc e=>hs'.extBut c o hc e
 obtain ⟨ws',r',ex⟩:=putT_rel r k b ru
 rw [ex] at d'
 have he:∃ q,h'.get? d=some q:=let ⟨q,_,_,hq,_⟩:=d';⟨q,hq⟩
 exact d_write I (by rw [e];exact True.intro) hs' he (dT_new hs (by have:=putT_len ps k b v;omega) r' d')
end
theorem sqt_upd2 {K:PySem.W.Frag}{H:Hp}{d b:Addr}{o:HO}{ps:PsT}{vs:List V}(e:H d=some (DicT d ps))(h:SqT K H b vs):SqT K (upd H d o) b vs:=by
 have ne:∀ {u},H b=some u->(∀ qs,u≠DicT d qs)->b≠d:=fun z f y=>by
  rw [y,e] at z
  cases z
  exact f ps rfl
 rcases h with (h|⟨ob,h⟩)|h
 ·exact .inl (.inl (by rw [upd_ne (ne h fun _ z=>by cases z)];exact h))
 ·exact .inl (.inr ⟨ob,by rw [upd_ne (ne h fun _ z=>by cases z)];exact h⟩)
 ·exact .inr h
theorem keysT_put {K:PySem.W.Frag}{H:Hp}{ps:PsT}{k:List Int}{b:Addr}{v:V}(h:KeysT K H ps)(hb:SqT K H b (k.map V.int)):KeysT K H (putT ps k b v):=by
 intro p hp
 unfold putT at hp
 split at hp
 ·obtain ⟨p',hp',e⟩:=List.mem_map.mp hp
  by_cases z:p'.1=k
  ·rw [if_pos z] at e
   subst e
   exact h p' hp'
  ·rw [if_neg z] at e
   subst e
   exact h p' hp'
 ·rcases List.mem_append.mp hp with hp|hp
  ·exact h p hp
  ·rw [List.mem_singleton.mp hp]
   exact hb
theorem upd_twice {H:Hp}{d:Addr}{o o':HO}:upd (upd H d o) d o'=upd H d o':=by
 funext b
 unfold upd
 split
 ·rfl
 ·rfl
theorem pair_of {P:Program}{w:World}{A:Around}{E:Value->Shared->Prop}{s:Shared}{p:Addr}{xs:Array Value}{Q:List Value->Shared->Prop}(h:PyProof.Rows.IsTup s.heap p xs)(q:Q xs.toList s):wpAny (model P w) A (Builtin.Dict.pairItems (.ref p)) Q E s:=by
 obtain ⟨o,g,c,n,dd⟩:=h
 have ty:s.TypeIs (.ref p) "tuple":=⟨o,g,c⟩
 unfold Builtin.Dict.pairItems
 refine wpAny_bind (wpAny_typeOf ty ?_)
 rw [if_pos (by decide)]
 unfold seqItems?
 refine wpAny_bind (wpAny_bind (wpAny_load g ?_))
 rw [dd]
 exact wpAny_pure (wpAny_pure q)
section
variable {X:Cx}{pins:List (Addr×Obj)}{σ:St}{A:Around}{d t it:Addr}{ys:List V}{R:Result->Shared->Prop}
theorem upd_loop (hh:A.handled=none)(hu:A.in1.units<cLine):∀ (L:List (Addr×List Int×Addr×V))(i:Nat)(ps:PsT)(H:Hp)(s:Shared),Inv X pins σ H s->H d=some (DicT d ps)->KeysT X.K H ps->SqT X.K H t ys->ys.drop i=L.map (fun r=>V.ref r.1)->
  (∀ r∈L,SqT X.K H r.1 [.ref r.2.2.1,r.2.2.2]/\SqT X.K H r.2.2.1 (r.2.1.map V.int))->FpOk X pins H it->s.heap.IsTupleIter it t i->ps.length+L.length<=sizeLine->
  (∀ s',Inv X pins σ (upd H d (DicT d (foldT ps L))) s'->R (.ok (.ret .none)) s')->codeAny (model X.prog X.w) A (.builtin "dict.update.loop" ⟨[.ref d,.ref it,rawInt i,.none],[]⟩) R s:=by
 intro L
 induction L with
 | nil=>
  intro i ps H s I e hk hq hd hr hf st hz q
  obtain ⟨its,rv,p,hzz⟩:=I.tuple hq
  obtain ⟨f0,f1,f2,f3,f4,f5⟩:=hf
  have hl:=rv.length
  have hlen:ys.length<=i:=by
   have:=congrArg List.length hd
   simp at this
   omega
  refine codeAny_builtin upd_entry ?_
  rw [Around.under_plainId upd_plain _]
  show wpAny _ A.in1 (pyNext (.ref it) >>= _) _ _ s
  refine wpAny_bind (wpAny_pyNext_tuple_end hh st (show s.heap.IsTuple t its.toArray from p) (by simp;omega) fun h' eb=>?_)
  have I1:Inv X pins σ H { s with heap:=h' }:=I.turned (t':=s.toks) (fun b o hb e=>eb b o hb e) f0 f1 f3 f4 f5
  show wpAny _ _ (Builtin.Dict.addKeywords d [] >>= _) _ _ _
  refine wpAny_bind (wpAny_pure (wpAny_pure (q _ ?_)))
  have:upd H d (DicT d (foldT ps []))=H:=by
   funext b
   unfold upd
   split
   ·rename_i z;rw [z];exact e.symm
   ·rfl
  rw [this]
  exact I1
 | cons r L ih=>
  intro i ps H s I e hk hq hd hr hf st hz q
  obtain ⟨its,rv,p,hzz⟩:=I.tuple hq
  obtain ⟨f0,f1,f2,f3,f4,f5⟩:=id hf
  have hx:ys[i]? = some (.ref r.1):=by
   have:=congrArg (·[0]?) hd
   simpa using this
  obtain ⟨u,hu1,ru⟩:=rv.get hx
  cases ru
  refine codeAny_builtin upd_entry ?_
  rw [Around.under_plainId upd_plain _]
  show wpAny _ A.in1 (pyNext (.ref it) >>= _) _ _ s
  refine wpAny_bind (wpAny_pyNext_tuple_item st (show s.heap.IsTuple t its.toArray from p) (x:=.ref r.1) (by simpa using hu1) fun h' st' sb=>?_)
  have I1:Inv X pins σ H { s with heap:=h' }:=I.turned (t':=s.toks) (fun b o hb e=>(sb.2 b hb).trans e) f0 f1 f3 f4 f5
  have hr0:=hr r (List.mem_cons_self ..)
  obtain ⟨its2,rv2,p2,_⟩:=I1.tuple hr0.1
  cases rv2 with
  | cons rk rr=>
   cases rr with
   | cons rw' rr=>
    cases rr
    cases rk
    rename_i w0
    refine wpAny_bind (wpAny_holding (wpAny_bind (wpAny_tryCatch (pair_of p2 ?_))))
    have hps:ps.length<sizeLine:=by
     rw [List.length_cons] at hz
     omega
    refine wpAny_holding (dT_put hu I1 e hk hr0.2 hps rw' fun s' I2 kp=>?_)
    refine wpAny_pure ⟨plainId_quiet upd_plain _,?_⟩
    have hid:it≠d:=fun z=>by
     rw [<- z,f0] at e
     cases e
    have hrest:∀ x∈L,SqT X.K (upd H d (DicT d (putT ps r.2.1 r.2.2.1 r.2.2.2))) x.1 [.ref x.2.2.1,x.2.2.2]/\SqT X.K (upd H d (DicT d (putT ps r.2.1 r.2.2.1 r.2.2.2))) x.2.2.1 (x.2.1.map V.int):=fun x hx=>
     ⟨sqt_upd2 e (hr x (List.mem_cons_of_mem _ hx)).1,sqt_upd2 e (hr x (List.mem_cons_of_mem _ hx)).2⟩
    have hdr:ys.drop (i+1)=L.map (fun r=>V.ref r.1):=by
     have:=congrArg List.tail hd
     simpa [List.tail_drop] using this
    refine ih (i+1) (putT ps r.2.1 r.2.2.1 r.2.2.2) _ s' I2 upd_same (keysT_put (fun p hp=>sqt_upd2 e (hk p hp)) (sqt_upd2 e hr0.2)) (sqt_upd2 e hq) hdr hrest ⟨by rw [upd_ne hid];exact f0,f1,f2,f3,f4,f5⟩ (st'.at fun o ho=>kp it o hid ho) ?_ fun s'' I''=>q s'' ?_
    ·have:=putT_len ps r.2.1 r.2.2.1 r.2.2.2
     rw [List.length_cons] at hz
     omega
    ·rw [upd_twice] at I''
     exact I''
end
section
variable {X:Cx}
noncomputable def rDictP (K:PySem.W.Frag):List V->Hp->VK->Prop:=fun xs H Q=>∃ (t:Addr)(L:List (Addr×List Int×Addr×V)),xs=[V.ref t]/\SqT K H t (L.map fun r=>V.ref r.1) /\
 (∀ r∈L,SqT K H r.1 [.ref r.2.2.1,r.2.2.2]/\SqT K H r.2.2.1 (r.2.1.map V.int))/\∀ d,H d=none->Q (.ref d) (upd H d (DicT d (foldT [] L)))
theorem call_dictP (hc:X.calm=true)(hun:X.A.units+64<cLine):CallR X (.type "dict") (rDictP X.K):=by
 intro pins s σ H xs us Q I r h
 obtain ⟨t,L,rfl,hq,hr,k⟩:=h
 obtain ⟨u,rfl,ru⟩:=vals1 r
 cases ru
 have hn:H s.heap.objs.size=none:=I.hok.fresh (Nat.le_refl _)
 refine callType_codes (Q₁:=fun obj s₁=>obj=.ref s.heap.objs.size/\s₁ = { s with heap:=s.heap.push { cls:=.type "dict",data:=.dict #[] } }) F.kt_called_dict (F.kt_typeCall_dict_1 _) F.entry_dict_init (kt_code_dict_new _ ⟨rfl,rfl⟩) ?_
 rintro obj s₁ ⟨rfl,rfl⟩
 have I0:Inv X pins σ (upd H s.heap.objs.size (DicT s.heap.objs.size [])) { s with heap:=s.heap.push { cls:=.type "dict",data:=.dict #[] } }:=I.laid (a:=s.heap.objs.size) (o:=DicT s.heap.objs.size []) (t':=s.toks) (fun _ _ q=>Heap.get?_push_of_some _ q) (Nat.le_refl _) (dT_empty s.heap I.big)
 have ty:({ s with heap:=s.heap.push { cls:=.type "dict",data:=.dict #[] } }:Shared).TypeIs (.ref s.heap.objs.size) "dict":=⟨_,Heap.get?_push_size _ rfl,rfl⟩
 refine ⟨ty,F.args_dict_init_2 _ _,?_⟩
 unfold Builtin.«dict.__init__»
 refine wpAny_bind ?_
 unfold Builtin.Dict.selfAndRest
 refine wpAny_bind (wpAny_notOrdered_dict ty ?_)
 show wpAny _ _ (pure (s.heap.objs.size,[Value.ref t])) _ _ _
 refine wpAny_pure ?_
 show wpAny _ _ (Builtin.Dict.updateFrom "dict.__init__" s.heap.objs.size (.ref t) [] .none) _ _ _
 unfold Builtin.Dict.updateFrom
 have mono:∀ {b:Addr}{vs:List V},SqT X.K H b vs->SqT X.K (upd H s.heap.objs.size (DicT s.heap.objs.size [])) b vs:=fun {b vs} z=>by
  have ne:H b≠none->b≠s.heap.objs.size:=fun f y=>by rw [y] at f;exact f hn
  rcases z with (z|⟨ob,z⟩)|z
  ·exact .inl (.inl (by rw [upd_ne (ne (by rw [z];exact fun y=>nomatch y))];exact z))
  ·exact .inl (.inr ⟨ob,by rw [upd_ne (ne (by rw [z];exact fun y=>nomatch y))];exact z⟩)
  ·exact .inr z
 obtain ⟨its,rv,ob,g1,g2,n,g3,g4⟩:=I0.tupN (mono hq)
 refine wpAny_bind (wpAny_typeOf ⟨ob,g1,g2⟩ ?_)
 rw [if_pos (by decide)]
 refine wpAny_bind (no_keys g1 g2 g3 g4 (I.ok.hd hc) fun h' tk kp=>?_)
 have I1:Inv X pins σ (upd H s.heap.objs.size (DicT s.heap.objs.size [])) { s with heap:=h',toks:=tk }:=I0.kept (t':=tk) kp
 show wpAny _ _ (rule _ >>= _) _ _ _
 refine wpAny_bind (wpAny_rule ?_)
 obtain ⟨its',rv',p',hz'⟩:=I1.tuple (mono hq)
 refine wpAny_bind (wpAny_pyIter_tuple (t:=t) (items:=its'.toArray) (show ({ s with heap:=h',toks:=tk }:Shared).heap.IsTuple t its'.toArray from p') ?_)
 have I2:=I1.kept (t':=tk) (h':=h'.push { cls:=.type "tuple_iterator",data:=.fields #[.ref t,.int 0 0] }) fun b o e=>Heap.get?_push_of_some _ e
 refine wpAny_pure ⟨plainId_quiet upd_plain _,?_⟩
 refine upd_loop (A:=X.A.in1) (I.ok.hd hc) ?_ L 0 [] _ _ I2 upd_same (fun p hp=>nomatch hp) (mono hq) rfl (fun r hr'=>⟨mono (hr r hr').1,mono (hr r hr').2⟩) (I1.fpOk (Nat.le_refl _) (I1.hok.fresh (Nat.le_refl _))) ⟨_,Heap.get?_push_size _ rfl,rfl,rfl⟩ ?_ fun s' I'=>?_
 ·show X.A.units+1+1<cLine
  omega
 ·have:=hz'
  simp at this ⊢
  exact this
 ·rw [upd_twice] at I'
  exact ⟨rfl,.ref s.heap.objs.size,_,I',rfl,k _ hn⟩
end
noncomputable def pairsD:List D->Option (List (List Int×D))
 | []=>some []
 | .tup [x,v]::r=>(keyT x).bind fun k=>(pairsD r).map fun l=>(k,v)::l
 | _::_=>none
noncomputable def dictM:MF:=fun ds μ=>match ds with
 | [.tup xs]=>(pairsD xs).map fun l=>(.loc μ.length,μ++[.dT (l.foldl (fun q p=>putDT q p.1 p.2) [])])
 | _=>none
section
variable {K:PySem.W.Frag}{π:Nat->Addr}{n:Nat}{H:Hp}
noncomputable abbrev PrIs (K:PySem.W.Frag)(π:Nat->Addr)(n:Nat)(H:Hp):List (Addr×List Int×Addr×V)->List (List Int×D)->Prop:=
 Paired fun r p=>r.2.1=p.1/\SqT K H r.1 [.ref r.2.2.1,r.2.2.2]/\SqT K H r.2.2.1 (r.2.1.map V.int)/\IsD K π n H r.2.2.2 p.2
theorem pairs_of:∀ {xs:List D}{ws:List V}{l:List (List Int×D)},IsDs K π n H ws xs->pairsD xs=some l->∃ L,ws=L.map (fun r=>V.ref r.1)/\PrIs K π n H L l
 | [],_,_,.nil,h=>by cases h;exact ⟨[],rfl,.nil⟩
 | x::xs,_,l,.cons i t,h=>by
  unfold pairsD at h
  split at h
  ·rename_i heq;cases heq
  ·rename_i y v r heq
   cases heq
   obtain ⟨k,hk,h⟩:=Zb.mp h
   obtain ⟨l',hl,rfl⟩:=Zm.mp h
   obtain ⟨L,rfl,P⟩:=pairs_of t hl
   cases i with
   | tup q z=>
    cases z with
    | cons z1 z=>
     cases z with
     | cons z2 z=>
      cases z
      obtain ⟨b,rfl,hb⟩:=keyT_of z1 hk
      exact ⟨(_,k,b,_)::L,rfl,.cons ⟨rfl,q,hb,z2⟩ P⟩
  ·cases h
theorem fold_is:∀ {L:List (Addr×List Int×Addr×V)}{l:List (List Int×D)},PrIs K π n H L l->∀ {ps:PsT}{kvs:List (List Int×D)},IsTs K π n H ps kvs->IsTs K π n H (foldT ps L) (l.foldl (fun q p=>putDT q p.1 p.2) kvs)
 | _,_,.nil,_,_,h=>h
 | r::L,p::l,.cons e t,ps,kvs,h=>by
  obtain ⟨e1,_,e3,e4⟩:=e
  show IsTs K π n H (foldT (putT ps r.2.1 r.2.2.1 r.2.2.2) L) (l.foldl _ (putDT kvs p.1 p.2))
  rw [<- e1]
  exact fold_is t (h.put r.2.1 e3 e4)
end
theorem dictM_ok {K:PySem.W.Frag}:CallD K dictM (rDictP K):=by
 intro π H μ xs d μ' vs Q R i hm k
 unfold dictM at hm
 split at hm
 ·rename_i xs
  obtain ⟨l,h1,h2⟩:=Zm.mp hm
  cases h2
  cases i with
  | cons i t=>
   cases t
   cases i with
   | tup q z=>
    obtain ⟨L,rfl,P⟩:=pairs_of z h1
    refine ⟨_,L,rfl,q,?_,fun d hd=>?_⟩
    ·clear q z k hm h1
     induction P with
     | nil=>exact fun r hr=>nomatch hr
     | cons e t ih=>
      intro r hr
      rcases List.mem_cons.mp hr with rfl|hr
      ·exact ⟨e.2.1,e.2.2.1⟩
      ·exact ih r hr
    ·have T:=fold_is P (ps:=[]) (kvs:=[]) .nil
     obtain ⟨e1,R1,q1⟩:=R.alloc (c:=.dT (l.foldl (fun q p=>putDT q p.1 p.2) [])) (o:=DicT d (foldT [] L)) hd ⟨_,rfl,T.to.1,T.to.2.1,T.to.2.2⟩
     exact k _ _ _ e1 R1 alloc_loc
 ·cases hm
end L3
namespace L3
open PySem L2
noncomputable def ItI (h:Heap)(it d S:Addr)(i n ep:Nat):Prop:=∃ (wn ok ov:Value)(fl:Bool),h.get? it=some { cls:=.type "dict_itemiterator",dict:=none,data:=.fields #[wn,.bool fl,.ref d,.int i 0,.int n 0,.int ep 0,ok,ov],slots:=#[] } /\
 (wn=.none\/∃ (a:Addr)(o:Obj),wn=rawInt a/\h.get? a=some o/\a≠it/\a≠S)
theorem ItI.ty {s:Shared}{it d S:Addr} {i n ep} (j:ItI s.heap it d S i n ep):s.TypeIs (.ref it) "dict_itemiterator":=let ⟨_,_,_,_,e,_⟩:=j;⟨_,e,rfl⟩
theorem ItI.stay {h h':Heap}{it d S:Addr} {i n ep} (j:ItI h it d S i n ep)(hI:it≠S)(k:∀ b o,b≠S->h.get? b=some o->h'.get? b=some o):ItI h' it d S i n ep:=by
 obtain ⟨wn,ok,ov,fl,e,r⟩:=j
 refine ⟨wn,ok,ov,fl,k _ _ hI e,?_⟩
 rcases r with r|⟨a,o,r1,r2,r3,r4⟩
 ·exact .inl r
 ·exact .inr ⟨a,o,r1,k _ _ r4 r2,r3,r4⟩
section
variable {P:Program}{w:World}{A:Around}{E:Value->Shared->Prop}{s:Shared}{d it S:Addr}{i ep:Nat}{es:Array DictEntry}
theorem nx_I {Q:Option Value->Shared->Prop}(hh:A.handled=none)(j:ItI s.heap it d S i es.size ep)(g:RawD s.heap d es ep)(hS:S<s.heap.objs.size)
  (q1:∀ e h',es[i]? = some e->ItI h' it d S (i+1) es.size ep->h'.get? s.heap.objs.size=some { cls:=.type "tuple",data:=.seq #[e.key,e.val] }->h'.objs.size=s.heap.objs.size+1->(∀ b o,b≠it->s.heap.get? b=some o->h'.get? b=some o)->Q (some (.ref s.heap.objs.size)) { s with heap:=h' })
  (q2:es[i]? = none->∀ h',Heap.ExtBut it s.heap h'->Q none { s with heap:=h' }):wpAny (model P w) A (pyNext (.ref it)) Q E s:=by
 obtain ⟨z,g1,g2,g3⟩:=id g
 have ty:=j.ty
 obtain ⟨hp,gs,dr,tk,os⟩:=s
 obtain ⟨wn,ok,ov,fl,je,jr⟩:=j
 have nm:∀ {Q:String->Shared->Prop}{A:Around}{E:Value->Shared->Prop},Q "dict_itemiterator" ⟨hp,gs,dr,tk,os⟩->wpAny (model P w) A (typeNameOfWhole (.ref it)) Q E ⟨hp,gs,dr,tk,os⟩:=fun q=>wpAny_typeNameOfWhole_itemiter ty q
 unfold pyNext
 refine wpAny_bind (wpAny_attempt (wpAny_callSpecial?_slot (name:=Str.ofString "__next__") ty F.slot_dict_itemiterator_next (wpAny_call_entry F.slot_dict_itemiterator_next ty F.entry_dict_itemiterator_next ?_ (F.args_dict_itemiterator_next_1 _))))
 refine wpAny_bind (wpAny_pure (wpAny_bind (wpAny_bind (wpAny_bind (nm (wpAny_pure (wpAny_bind (wpAny_fieldsOf je rfl ?_))))))))
 simp only [show Builtin.Dict_items.ownsTuple "dict_itemiterator" = true by decide,if_true]
 show wpAny _ _ (if (Value.ref d == Value.none)=true then _ else _) _ _ _
 rw [if_neg (show ¬ (Value.ref d == Value.none)=true from fun x=>Bool.false_ne_true x)]
 refine wpAny_bind (wpAny_pure (wpAny_bind (wpAny_dictEntries g1 g3 ?_)))
 rw [if_neg (fun x=>by simp at x)]
 refine wpAny_bind (wpAny_pure (wpAny_bind (wpAny_dictEpoch g1 g3 ?_)))
 rw [if_neg (fun x=>by simp at x)]
 refine wpAny_pure ?_
 simp only [if_neg (show ¬ ((i:Int)<0) by omega),Int.toNat_natCast]
 have hil:it<hp.objs.size:=Heap.lt_size je
 cases he:es[i]? with
 | some e=>
  refine wpAny_bind (wpAny_bind (nm (wpAny_pure (wpAny_bind (wpAny_isOneOf_itemiter ty ?_)))))
  show wpAny _ _ (setField (.ref it) 3 (rawInt ((i:Int)+1)) >>= _) _ _ _
  refine wpAny_bind (wpAny_setField_rec je (by simp) fun u ue us=>?_)
  replace us:Heap.SameBut it hp u:=us
  replace ue:u.get? it=some { cls:=.type "dict_itemiterator",dict:=none,data:=.fields #[wn,.bool fl,.ref d,.int ((i+1:Nat):Int) 0,.int es.size 0,.int ep 0,ok,ov],slots:=#[] }:=by
   rw [show ((i+1:Nat):Int)=(i:Int)+1 by omega]
   simpa [rawInt] using ue
  have ty1:Shared.TypeIs ⟨u,gs,dr,tk,os⟩ (.ref it) "dict_itemiterator":=⟨_,ue,rfl⟩
  refine wpAny_bind (wpAny_holding (wpAny_bind (wpAny_isOneOf_itemiter ty1 (wpAny_bind (wpAny_isOneOf_itemiter ty1 ?_)))))
  show wpAny _ _ (Builtin.Dict_items.pairFromOwner (.ref it) 6 e.key e.val) _ _ _
  unfold Builtin.Dict_items.pairFromOwner
  refine wpAny_bind (wpAny_newTuple ?_)
  have zu:u.objs.size=hp.objs.size:=us.1
  have v1:=Heap.get?_push_of_some { cls:=.type "tuple",data:=.seq #[e.key,e.val] } ue
  have vt:(u.push { cls:=.type "tuple",data:=.seq #[e.key,e.val] }).get? hp.objs.size=some { cls:=.type "tuple",data:=.seq #[e.key,e.val] }:=zu ▸ Heap.get?_push_size u rfl
  have vz:(u.push { cls:=.type "tuple",data:=.seq #[e.key,e.val] }).objs.size=hp.objs.size+1:=by rw [Heap.size_push,zu]
  have vk:∀ b o,b≠it->hp.get? b=some o->(u.push { cls:=.type "tuple",data:=.seq #[e.key,e.val] }).get? b=some o:=fun b o hb x=>Heap.get?_push_of_some _ (us.extBut b o hb x)
  show wpAny _ _ (Builtin.Dict_items.ownedTupleIsFree (.ref it) >>= _) _ _ ⟨u.push { cls:=.type "tuple",data:=.seq #[e.key,e.val] },gs,dr,tk,os⟩
  rw [zu]
  generalize u.push { cls:=.type "tuple",data:=.seq #[e.key,e.val] } = v at v1 vt vz vk
  have nit:hp.objs.size≠it:=Nat.ne_of_gt hil
  have fin:∀ v':Heap,ItI v' it d S (i+1) es.size ep->Heap.SameBut it v v'->Q (some (.ref hp.objs.size)) ⟨v',gs,dr,tk,os⟩:=fun v' j' sb=>
   q1 e v' he j' (sb.extBut _ _ nit vt) (by show v'.objs.size=_;rw [sb.1,vz]) fun b o hb x=>sb.extBut b o hb (vk b o hb x)
  refine wpAny_bind ?_
  unfold Builtin.Dict_items.ownedTupleIsFree
  rcases jr with rfl|⟨a,o,rfl,r2,r3,r4⟩
  ·refine wpAny_bind (wpAny_field v1 rfl (x:=.none) rfl (wpAny_pure ?_))
   simp only [if_true]
   refine wpAny_bind (wpAny_field v1 rfl (x:=ok) rfl (wpAny_bind (wpAny_field v1 rfl (x:=ov) rfl ?_)))
   refine wpAny_bind (wpAny_setField_rec v1 (by simp) fun v3 x3 y3=>wpAny_bind (wpAny_setField_rec x3 (by simp) fun v4 x4 y4=>wpAny_bind (wpAny_setField_rec x4 (by simp) fun v5 x5 y5=>wpAny_bind (wpAny_setField_rec x5 (by simp) fun v6 x6 y6=>?_))))
   refine wpAny_bind (wpAny_letGo (wpAny_pure (wpAny_pure ⟨_,rfl,wpAny_pure (fin v6 ?_ ?_)⟩)))
   ·refine ⟨rawInt hp.objs.size,e.key,e.val,false,by simpa using x6,.inr ⟨hp.objs.size,_,rfl,y6.extBut _ _ nit (y5.extBut _ _ nit (y4.extBut _ _ nit (y3.extBut _ _ nit vt))),nit,Nat.ne_of_gt hS⟩⟩
   ·exact ((y3.trans y4).trans y5).trans y6
  ·refine wpAny_bind (wpAny_field v1 rfl (x:=rawInt a) rfl ?_)
   show wpAny _ _ (loadIfAlive ((a:Int).toNat) >>= _) _ _ _
   rw [Int.toNat_natCast]
   refine wpAny_bind (PySem.W.kdx_alive (vk a o r3 r2) ?_)
   simp only [Option.isNone_some,Bool.false_eq_true,if_false]
   refine wpAny_bind (wpAny_field v1 rfl (x:=.bool fl) rfl ?_)
   cases fl with
   | true=>
    rw [if_neg (show ¬ ((Value.bool true != Value.bool true)=true) from fun x=>Bool.false_ne_true x)]
    refine wpAny_pure ?_
    simp only [Bool.false_eq_true,if_false]
    exact wpAny_pure (wpAny_pure ⟨_,rfl,wpAny_pure (fin v ⟨_,ok,ov,true,v1,.inr ⟨a,o,rfl,vk a o r3 r2,r3,r4⟩⟩ (Heap.SameBut.refl _ _))⟩)
   | false=>
    rw [if_pos (show (Value.bool false != Value.bool true)=true from rfl)]
    refine wpAny_bind (wpAny_setField_rec v1 (by simp) fun v3 x3 y3=>wpAny_pure ?_)
    simp only [Bool.false_eq_true,if_false]
    exact wpAny_pure (wpAny_pure ⟨_,rfl,wpAny_pure (fin v3 ⟨_,ok,ov,true,by simpa using x3,.inr ⟨a,o,rfl,y3.extBut a o r3 (vk a o r3 r2),r3,r4⟩⟩ y3)⟩)
 | none=>
  refine wpAny_bind (wpAny_bind (nm (wpAny_pure ?_)))
  show wpAny _ _ (setField (.ref it) 2 .none >>= _) _ _ _
  refine wpAny_bind (wpAny_setField je rfl (by simp) ?_)
  show wpAny _ _ (newExc (.type "StopIteration") [] >>= _) _ _ _
  simp only [newExc,newTuple]
  refine wpAny_bind (wpAny_bind (wpAny_newObj_type ?_ (by size_fits)))
  refine wpAny_bind (m:=firstArgMember _ _) (wpAny_of_eq (a:=Value.none) (by first|rfl|(simp only [firstArgMember];rfl)) (wpAny_newObj_type ?_ (by size_fits)))
  simp only [raiseNew]
  refine wpAny_bind (wpAny_handled ?_)
  rw [show A.in1.handled=none from hh]
  refine wpAny_bind (wpAny_pure (wpAny_throw ?thrown))
  case thrown=>exact wpAny_bind (wpAny_isInstance (T:="StopIteration") (b:=true) ⟨_,Heap.get?_push_size _ rfl,rfl⟩ isSubtype_stop (wpAny_pure (q2 he _ (((Heap.SameBut.update ..).extBut.push _).push _))))
theorem it_I {r:Addr}{Q:Value->Shared->Prop}(hv:s.heap.IsItemsView r d)(g:RawD s.heap d es ep)
  (q:Q (.ref s.heap.objs.size) { s with heap:=s.heap.push { cls:=.type "dict_itemiterator",data:=.fields #[.none,.bool false,.ref d,.int 0 0,.int es.size 0,.int ep 0,.none,.none] } }):wpAny (model P w) A (pyIter (.ref r)) Q E s:=by
 obtain ⟨y,v1,v2,v3⟩:=id hv
 obtain ⟨z,g1,g2,g3⟩:=id g
 refine wpAny_pyIter_slot hv.typeIs F.slot_dict_items_iter (wpAny_call_entry F.slot_dict_items_iter hv.typeIs F.entry_dict_items_iter ?_ (F.args_dict_items_iter_1 _))
 unfold Builtin.«dict_items.__iter__» Builtin.Dict_items.dictOf Builtin.Dict_items.newIterator
 refine wpAny_bind (wpAny_pure (wpAny_bind (wpAny_bind (wpAny_field v1 v3 (x:=.ref d) rfl (wpAny_pure (wpAny_bind (wpAny_bind (wpAny_dictEntries g1 g3 (wpAny_bind (wpAny_dictEpoch g1 g3 ?_))))))))))
 simp only [show Builtin.Dict_items.ownsTuple "dict_itemiterator" = true by decide,if_true]
 refine wpAny_newObj_type (wpAny_pure ⟨_,rfl,"dict_itemiterator",_,⟨_,Heap.get?_push_size _ rfl,rfl⟩,F.slot_dict_itemiterator_next.lookup,?_⟩) (by simp only [sizeOk,Builtin.Dict_items.ownedTupleFields,List.size_toArray,List.length_append,List.length_cons,List.length_nil];rw [sizeLine_eq];omega)
 simpa [rawInt,Builtin.Dict_items.ownedTupleFields] using q
end
structure PrsAt (es:Array DictEntry)(lo:Addr)(h:Heap)(as:List Addr):Prop where
 up:as.Pairwise (·<·)
 over:∀ a∈as,lo<a
 prs:∀ (j:Nat)(a:Addr),as[j]? = some a->∃ e,es[j]? = some e/\h.get? a=some { cls:=.type "tuple",data:=.seq #[e.key,e.val] }
theorem PrsAt.stay {es:Array DictEntry}{lo:Addr}{h h':Heap}{as:List Addr}(p:PrsAt es lo h as)(k:∀ b o,lo<b->h.get? b=some o->h'.get? b=some o):PrsAt es lo h' as:=
 ⟨p.up,p.over,fun j a hj=>let ⟨e,e1,e2⟩:=p.prs j a hj;⟨e,e1,k a _ (p.over a (List.mem_of_getElem? hj)) e2⟩⟩
theorem PrsAt.lt {es:Array DictEntry}{lo:Addr}{h:Heap}{as:List Addr}(p:PrsAt es lo h as){a:Addr}(ha:a∈as):a<h.objs.size:=by
 obtain ⟨j,hj⟩:=List.mem_iff_getElem?.mp ha
 obtain ⟨_,_,e⟩:=p.prs j a hj
 exact Heap.lt_size e
theorem PrsAt.snoc {es:Array DictEntry}{lo:Addr}{h:Heap}{as:List Addr}{b:Addr}{e:DictEntry}(p:PrsAt es lo h as)(hb:∀ a∈as,a<b)(hl:lo<b)(he:es[as.length]? = some e)(ht:h.get? b=some { cls:=.type "tuple",data:=.seq #[e.key,e.val] }):PrsAt es lo h (as++[b]):=by
 refine ⟨List.pairwise_append.mpr ⟨p.up,List.pairwise_singleton _ _,fun a ha c hc=>by rw [List.mem_singleton.mp hc];exact hb a ha⟩,fun a ha=>?_,fun j a hj=>?_⟩
 ·rcases List.mem_append.mp ha with ha|ha
  ·exact p.over a ha
  ·rw [List.mem_singleton.mp ha];exact hl
 ·rcases Nat.lt_trichotomy j as.length with h1|h1|h1
  ·rw [List.getElem?_append_left h1] at hj
   exact p.prs j a hj
  ·subst h1
   have:b=a:=by simpa using hj
   subst this
   exact ⟨e,he,ht⟩
  ·rw [List.getElem?_eq_none (by simp;omega)] at hj
   cases hj
section
variable {P:Program}{w:World}{A:Around}{s:Shared}{R:Result->Shared->Prop}{es:Array DictEntry}{ep:Nat}{S I d:Addr}
theorem ex_I (hh:A.handled=none)(hSI:S<I)(hSd:d≠S)(hId:d≠I)(hn:es.size<=sizeLine)(res:Value){h1:Heap}
  (hR:∀ (h':Heap)(tk:Nat)(acc:Array Value)(c:Nat)(as:List Addr),(∀ b o,b≠S->b≠I->h1.get? b=some o->h'.get? b=some o)->h'.get? S=some { cls:=.type "list",dict:=none,data:=.seq acc c,slots:=#[] }->as.length=es.size->PrsAt es I h' as->acc.toList=as.map Value.ref->R (.ok (.ret res)) { s with heap:=h',toks:=tk }) :
  ∀ (k i:Nat)(h:Heap)(tk c:Nat)(acc:Array Value)(as:List Addr),es.size - i=k->i<=es.size->ItI h I d S i es.size ep->RawD h d es ep->(∀ b o,b≠S->b≠I->h1.get? b=some o->h.get? b=some o)->h.get? S=some { cls:=.type "list",dict:=none,data:=.seq acc c,slots:=#[] }->
   acc.toList=as.map Value.ref->as.length=i->PrsAt es I h as->I<h.objs.size->codeAny (model P w) A (.builtin "list.extend.loop" ⟨[.ref S,.ref I,res],[]⟩) R { s with heap:=h,toks:=tk }:=by
 have ne:S≠I:=Nat.ne_of_lt hSI
 intro k
 induction k with
 | zero=>
  intro i h tk c acc as hk hi j g kp gS ha al pr lt
  refine codeAny_builtin F.entry_extend_loop ?_
  rw [Around.under_plainId F.plain_extend_loop _]
  refine wpAny_bind (m:=pyNext (.ref I)) (nx_I (s:={ s with heap:=h,toks:=tk }) (A:=A.in1) hh j g (Heap.lt_size gS) (fun e h' he=>?_) fun _ h' x=>wpAny_pure (hR h' tk acc c as (fun b o b1 b2 z=>x b o b2 (kp b o b1 b2 z)) (x S _ ne gS) (by omega) (pr.stay fun b o hb z=>x b o (Nat.ne_of_gt hb) z) ha))
  rw [Array.getElem?_eq_none (by omega)] at he
  cases he
 | succ k ih=>
  intro i h tk c acc as hk hi j g kp gS ha al pr lt
  have sz:acc.size=i:=by rw [<- Array.length_toList,ha,Zl,al]
  refine codeAny_builtin F.entry_extend_loop ?_
  rw [Around.under_plainId F.plain_extend_loop _]
  refine wpAny_bind (m:=pyNext (.ref I)) (nx_I (s:={ s with heap:=h,toks:=tk }) (A:=A.in1) hh j g (Heap.lt_size gS) (fun e h' he j' ht hz hk'=>?_) fun he=>?_)
  ·dsimp only at ht hz hk' ⊢
   have gS':=hk' S _ ne gS
   have Sl:S<h.objs.size:=Heap.lt_size gS
   have up:∀ b o,b≠S->h'.get? b=some o->(h'.update S (Obj.mapSeq (·.push (Value.ref h.objs.size)))).get? b=some o:=fun b o hb z=>(Heap.get?_update_other _ _ (Ne.symm hb)).trans z
   refine wpAny_bind (m:=updateSeq S (·.push (Value.ref h.objs.size))) (wpAny_updateSeq gS' rfl (wpAny_pure ⟨plainId_quiet F.plain_extend_loop _,?_⟩) (by rw [sz];omega) (by show (acc.push (Value.ref h.objs.size)).size<=sizeLine+1;rw [Array.size_push,sz];omega))
   refine ih (i+1) _ tk _ (acc.push (Value.ref h.objs.size)) (as++[h.objs.size]) (by omega) (by omega) (j'.stay (Ne.symm ne) up) (g.stay fun o z=>up d o hSd (hk' d o hId z)) (fun b o b1 b2 z=>up b o b1 (hk' b o b2 (kp b o b1 b2 z))) (Heap.get?_update_self _ gS' rfl) (by rw [Array.toList_push,ha,List.map_append];rfl) (by rw [List.length_append,al];rfl) ?_ ?_
   ·exact ((pr.stay fun b o hb z=>up b o (Nat.ne_of_gt (Nat.lt_trans hSI hb)) (hk' b o (Nat.ne_of_gt hb) z))).snoc (fun a ha'=>pr.lt ha') lt (by rw [al];exact he) (up _ _ (Nat.ne_of_gt Sl) ht)
   ·exact Nat.lt_trans lt (Heap.lt_size (up _ _ (Nat.ne_of_gt Sl) ht))
  ·rw [Array.getElem?_eq_getElem (by omega)] at he
   cases he
theorem ew_I {r:Addr}{res:Value}{c0:Nat}(hh:A.handled=none)(hv:s.heap.IsItemsView r d)(g:RawD s.heap d es ep)(Sr:S≠r)(Sd:d≠S)(gS:s.heap.get? S=some { cls:=.type "list",data:=.seq #[] c0 }) (hn:es.size<=sizeLine)
  (hR:∀ (h':Heap)(tk:Nat)(acc:Array Value)(c:Nat)(as:List Addr),(∀ b o,b≠S->s.heap.get? b=some o->h'.get? b=some o)->h'.get? S=some { cls:=.type "list",dict:=none,data:=.seq acc c,slots:=#[] }->as.length=es.size->PrsAt es s.heap.objs.size h' as->acc.toList=as.map Value.ref->R (.ok (.ret res)) { s with heap:=h',toks:=tk }) :
  wpAny (model P w) A.in1 (Builtin.List.listExtendWith (.ref S) (.ref r) res) (fun fin s'=>match fin with|.done f=>R (.ok f) s'|.again c'=>c'.quiet=true/\codeAny (model P w) A c' R s') (fun e s'=>R (.error e) s') s:=by
 have SI:S<s.heap.objs.size:=Heap.lt_size gS
 have dI:d<s.heap.objs.size:=g.lt
 have run:∀ (h:Heap)(c1 tk:Nat),(∀ b o,b≠S->(s.heap.push { cls:=.type "dict_itemiterator",data:=.fields #[.none,.bool false,.ref d,.int 0 0,.int es.size 0,.int ep 0,.none,.none] }).get? b=some o->h.get? b=some o)->h.get? S=some { cls:=.type "list",data:=.seq #[] c1 }->
   codeAny (model P w) A (.builtin "list.extend.loop" ⟨[.ref S,.ref s.heap.objs.size,res],[]⟩) R { s with heap:=h,toks:=tk }:=by
  intro h c1 tk kp gS1
  have gI:=kp s.heap.objs.size _ (Nat.ne_of_gt SI) (Heap.get?_push_size _ rfl)
  exact ex_I (s:=s) (h1:=s.heap) (ep:=ep) hh SI Sd (Nat.ne_of_lt dI) hn res (fun h' tk' acc c as k' z1 z2 z3 z4=>hR h' tk' acc c as (fun b o hb e=>k' b o hb (Nat.ne_of_lt (Heap.lt_size e)) e) z1 z2 z3 z4) es.size 0 h tk c1 #[] [] (Nat.sub_zero _) (Nat.zero_le _)
   ⟨.none,.none,.none,false,gI,.inl rfl⟩ (g.stay fun o e=>kp d o Sd (Heap.get?_push_of_some _ e)) (fun b o hb _ e=>kp b o hb (Heap.get?_push_of_some _ e)) gS1 rfl rfl ⟨List.Pairwise.nil,fun _ ha=>(by cases ha),fun j a hj=>(by simp at hj)⟩ (Heap.lt_size gI)
 unfold Builtin.List.listExtendWith
 refine wpAny_bind (wpAny_typeOf (T:="dict_items") hv.typeIs ?_)
 simp only [show Builtin.List.listSameRef (.ref S) (.ref r)=false by simp [Builtin.List.listSameRef,Sr],show (Value.type "dict_items" == Value.type "list")=false by decide,show (Value.type "dict_items" == Value.type "tuple")=false by decide,Bool.or_false,Bool.false_eq_true,if_false]
 refine wpAny_bind (it_I hv g ?_)
 have gS1:=Heap.get?_push_of_some { cls:=.type "dict_itemiterator",data:=.fields #[.none,.bool false,.ref d,.int 0 0,.int es.size 0,.int ep 0,.none,.none] } gS
 refine wpAny_bind (wpAny_holding (PySem.W.kdx_hint (let ⟨o,ho,hc,_⟩:=hv;⟨o,Heap.get?_push_of_some _ ho,hc⟩) ?_))
 refine wpAny_ite_split (fun _=>?_) (fun _=>wpAny_pure ⟨plainId_quiet F.plain_extend_loop _,run _ c0 _ (fun b o _ e=>e) gS1⟩)
 refine wpAny_bind (wpAny_rule (wpAny_bind ?_))
 refine wpAny_bind (m:=updateSeq S (·.push .none)) (wpAny_updateSeq gS1 rfl ?_)
 have gS2:=Heap.get?_update_self (Obj.mapSeq (·.push Value.none)) gS1 rfl
 refine wpAny_updateSeq (hz:=by seq_fits) gS2 rfl (wpAny_pure ⟨plainId_quiet F.plain_extend_loop _,run _ _ _ (fun b o hb e=>?_) (Heap.get?_update_self (Obj.mapSeq (·.pop)) gS2 rfl)⟩)
 exact (Heap.get?_update_other _ _ (Ne.symm hb)).trans ((Heap.get?_update_other _ _ (Ne.symm hb)).trans e)
theorem cl_I {r:Addr}{E:Value->Shared->Prop}{T:List Value->Shared->Prop}(hh:A.handled=none)(hv:s.heap.IsItemsView r d)(g:RawD s.heap d es ep)(hn:es.size<=sizeLine)
  (q:∀ (h':Heap)(tk:Nat)(as:List Addr),(∀ b o,s.heap.get? b=some o->h'.get? b=some o)->as.length=es.size->PrsAt es s.heap.objs.size h' as->T (as.map Value.ref) { s with heap:=h',toks:=tk }):wpAny (model P w) A (collect (.ref r)) T E s:=by
 have rl:r<s.heap.objs.size:=let ⟨_,ho,_⟩:=hv;Heap.lt_size ho
 unfold collect
 refine wpAny_bind (wpAny_runValue (codeAny_builtin PyProof.Rows.entry_proto_collect' ?_))
 rw [Around.under_plainId F.plain_proto_collect _]
 refine wpAny_bind (m:=newList []) (wpAny_newObj_type (wpAny_pure ⟨plainId_quiet F.plain_list_iadd _,codeAny_builtin PyProof.Rows.entry_list_iadd' ?_⟩))
 rw [Around.under_plainId F.plain_list_iadd _]
 have gS:(s.heap.push { cls:=.type "list",data:=.seq ([]:List Value).toArray }).get? s.heap.objs.size=some { cls:=.type "list",data:=.seq #[] }:=Heap.get?_push_size _ rfl
 have all:=ew_I (A:=A) (s:={ s with heap:=s.heap.push { cls:=.type "list",data:=.seq ([]:List Value).toArray } }) (P:=P) (w:=w) (es:=es) (ep:=ep) (res:=.ref s.heap.objs.size) (c0:=0)
  (R:=fun (q:Result)(s':Shared)=>∃ (h':Heap)(tk:Nat)(acc:Array Value)(c:Nat)(as:List Addr),q=.ok (.ret (.ref s.heap.objs.size))/\s' = { s with heap:=h',toks:=tk }/\(∀ b o,s.heap.get? b=some o->h'.get? b=some o)/\h'.get? s.heap.objs.size=some { cls:=.type "list",dict:=none,data:=.seq acc c,slots:=#[] }/\as.length=es.size/\PrsAt es s.heap.objs.size h' as/\acc.toList=as.map Value.ref)
  hh (let ⟨o,ho,x⟩:=hv;⟨o,Heap.get?_push_of_some _ ho,x⟩) (g.stay fun o e=>Heap.get?_push_of_some _ e) (Nat.ne_of_gt rl) (Nat.ne_of_lt g.lt) gS hn
  (fun h' tk acc c as z0 z1 z2 z3 z4=>⟨h',tk,acc,c,as,rfl,rfl,fun b o e=>z0 b o (Nat.ne_of_lt (Heap.lt_size e)) (Heap.get?_push_of_some _ e),z1,z2,⟨z3.up,fun a ha=>Nat.lt_trans (Nat.lt_succ_self _) (by have:=z3.over a ha;rw [Heap.size_push] at this;exact this),z3.prs⟩,z4⟩)
 refine wpAny_mono all (fun fin s' x=>?_) fun e s' x=>?_
 ·cases fin with
  | done f=>
   obtain ⟨h',tk,acc,c,as,e,rfl,z0,z1,z2,z3,z4⟩:=x
   cases e
   refine wpAny_bind (m:=load s.heap.objs.size) (wpAny_load z1 (wpAny_pure ?_))
   show T acc.toList _
   rw [z4]
   exact q h' tk as z0 z2 z3
  | again c1=>
   refine ⟨x.1,codeAny_mono x.2 fun y s2 x=>?_⟩
   obtain ⟨h',tk,acc,c,as,rfl,rfl,z0,z1,z2,z3,z4⟩:=x
   refine wpAny_bind (m:=load s.heap.objs.size) (wpAny_load z1 (wpAny_pure ?_))
   show T acc.toList _
   rw [z4]
   exact q h' tk as z0 z2 z3
 ·obtain ⟨_,_,_,_,_,e',_⟩:=x
  cases e'
end
end L3
namespace L3
open PySem L2 PySem.W PyProof.Rows
section
variable {P:Program}{w:World}{A:Around}{E:Value->Shared->Prop}{s:Shared}
theorem same_eq {v:Value}{Q:Bool->Shared->Prop}(q:Q true s):wpAny (model P w) A (eqBool v v) Q E s:=by
 unfold eqBool
 refine wpAny_holding ?_
 rw [if_pos (by simp)]
 exact wpAny_bind (wpAny_rule (wpAny_pure q))
theorem lex_self:∀ k:List Int,HT.lexLt k k=false
 | []=>rfl
 | a::k=>by simp [HT.lexLt,lex_self k]
noncomputable def KeyAt (P:Program)(w:World)(h:Heap)(b:Addr)(k:List Int):Prop:=Tb.IsT P w h k b/\∃ xs:List Value,IsTup h b xs.toArray/\IntsAre xs k
theorem lt_prs {a a' b b':Addr}{v v':Value}{k k':List Int}{C:Bool->Shared->Prop}(hu:A.units<cLine)(ga:s.heap.get? a=some { cls:=.type "tuple",data:=.seq #[.ref b,v] }) (ga':s.heap.get? a'=some { cls:=.type "tuple",data:=.seq #[.ref b',v'] })
  (hb:KeyAt P w s.heap b k)(hb':KeyAt P w s.heap b' k')(hv:k=k'->v=v')(q:C (HT.lexLt k k') s):wpAny (model P w) A (keyLt' (tuples' false) (.ref a) (.ref a')) C (fun _ _=>False) s:=by
 refine kat_lt ga rfl ga' rfl ?_
 refine kat_cons ((tupleKind (intKind P w)).eqBool hu hb.1 hb'.1 ?_)
 by_cases e:k=k'
 ·obtain rfl:=hv e
  subst e
  rw [decide_eq_true rfl]
  refine kat_yes (kat_cons (same_eq (kat_yes (kat_nil ?_))))
  rw [lex_self] at q
  exact q
 ·rw [decide_eq_false e]
  obtain ⟨xs,t1,i1⟩:=hb.2
  obtain ⟨ys,t2,i2⟩:=hb'.2
  refine kat_no (kat_one _ _ (HT.lt_tupInts t1 t2 (by simpa using i1) (by simpa using i2) hu ?_))
  exact q
noncomputable def AsksI (P:Program)(w:World)(A:Around)(us:List Value)(an:Nat->Nat->Bool)(s:Shared):Prop:=
 wpAny (model P w) A (keyKind' us.toArray) (fun κ s'=>s'=s/\∀ (i j:Nat)(C:Bool->Shared->Prop),i<us.length->j<us.length->C (an i j) s->wpAny (model P w) A (keyLt' κ (us.getD i .none) (us.getD j .none)) C (fun _ _=>False) s) (fun _ _=>False) s
theorem asks_I {es:Array DictEntry}{lo:Addr}{as bs:List Addr}{ks:List (List Int)}(hu:A.units<cLine)(p:PrsAt es lo s.heap as)(h0:0<as.length)(hl:as.length=es.size)(hk:ks.length=es.size)(hbl:bs.length=es.size)(key:∀ (j:Nat)(e:DictEntry),es[j]? = some e->e.key=.ref (bs.getD j 0)/\KeyAt P w s.heap (bs.getD j 0) (ks.getD j []))
  (nd:ks.Nodup):AsksI P w A (as.map Value.ref) (fun i j=>HT.lexLt (ks.getD i []) (ks.getD j [])) s:=by
 have at_:∀ i,i<as.length->∃ (e:DictEntry),es[i]? = some e/\s.heap.get? (as.getD i 0)=some { cls:=.type "tuple",data:=.seq #[.ref (bs.getD i 0),e.val] }/\KeyAt P w s.heap (bs.getD i 0) (ks.getD i []):=fun i hi=>by
  have ea:as[i]? = some (as.getD i 0):=by simp [List.getD,hi]
  obtain ⟨e,e1,e2⟩:=p.prs i _ ea
  obtain ⟨k1,k2⟩:=key i e e1
  rw [k1] at e2
  exact ⟨e,e1,e2,k2⟩
 unfold AsksI
 have tups:KatTups s.heap (as.map Value.ref) (bs.map Value.ref):=by
  have go:∀ (n:Nat)(as' bs':List Addr),as'.length=n->bs'.length=n->(∀ i,i<n->∃ v:Value,s.heap.get? (as'.getD i 0)=some { cls:=.type "tuple",data:=.seq #[.ref (bs'.getD i 0),v] })->KatTups s.heap (as'.map Value.ref) (bs'.map Value.ref):=by
   intro n
   induction n with
   | zero=>
    intro as' bs' h1 h2 _
    rw [List.length_eq_zero_iff.mp h1,List.length_eq_zero_iff.mp h2]
    exact .nil
   | succ n ih=>
    intro as' bs' h1 h2 h3
    match as',bs',h1,h2 with
    | x::as',y::bs',h1,h2=>
     obtain ⟨v,hv⟩:=h3 0 (by omega)
     refine .cons hv rfl rfl (by simp) (ih as' bs' (by simpa using h1) (by simpa using h2) fun i hi=>?_)
     have:=h3 (i+1) (by omega)
     simpa using this
  refine go as.length as bs rfl (by omega) fun i hi=>?_
  obtain ⟨e,_,e2,_⟩:=at_ i hi
  exact ⟨_,e2⟩
 refine kat_kind (T:=.type "tuple") tups (by rw [Zl];omega) (fun v hv=>?_) (by decide) ⟨rfl,fun i j C hi hj hC=>?_⟩
 ·obtain ⟨b,hb,rfl⟩:=List.mem_map.mp hv
  obtain ⟨i,hi⟩:=List.mem_iff_getElem?.mp hb
  have hi':i<as.length:=by
   have:=(Zg.mp hi).1
   omega
  obtain ⟨e,_,_,k2⟩:=at_ i hi'
  have:bs.getD i 0=b:=by simp [List.getD,hi]
  rw [this] at k2
  obtain ⟨xs,⟨o,o1,o2,_⟩,_⟩:=k2.2
  exact kitAt_ty _ _ ⟨o,o1,o2⟩
 ·rw [Zl] at hi hj
  obtain ⟨e,e1,e2,e3⟩:=at_ i hi
  obtain ⟨e',f1,f2,f3⟩:=at_ j hj
  have gi:(as.map Value.ref).getD i .none=.ref (as.getD i 0):=by simp [List.getD,hi]
  have gj:(as.map Value.ref).getD j .none=.ref (as.getD j 0):=by simp [List.getD,hj]
  rw [gi,gj]
  refine lt_prs hu e2 f2 e3 f3 (fun z=>?_) hC
  have hij:i=j:=by
   have h1:ks.getD i []=ks[i]:=by simp [List.getD,show i<ks.length by omega]
   have h2:ks.getD j []=ks[j]:=by simp [List.getD,show j<ks.length by omega]
   rw [h1,h2] at z
   rcases Nat.lt_trichotomy i j with h|h|h
   ·exact absurd z ((List.pairwise_iff_getElem.mp nd) i j (by omega) (by omega) h)
   ·exact h
   ·exact absurd z.symm ((List.pairwise_iff_getElem.mp nd) j i (by omega) (by omega) h)
  subst hij
  rw [e1] at f1
  cases f1
  rfl
end
end L3
namespace L3
open PySem L2 PySem.W PyProof.Rows
section
variable {P:Program}{w:World}{A:Around}{E:Value->Shared->Prop}{s:Shared}
theorem sort_ix {c:Addr}{us:List Value}{z:Nat}{R:PySem.Fin->Shared->Prop}{an:Nat->Nat->Bool}(h2:2<=us.length)(h64:us.length<64)(g:s.heap.get? c=some (seqObj "list" us.toArray z)) (H:∀ h3:Heap,(∀ b o,b≠c->s.heap.get? b=some o->h3.get? b=some o)->AsksI P w A us an { s with heap:=h3 })
  (q:R (.done (.ret .none)) { s with heap:=sortedHeap s.heap c us ((sortIx an us.length).map fun i=>us.getD i Value.none).toArray }):wpAny (model P w) A (Builtin.«list.sort» ⟨[.ref c],[]⟩) R E s:=by
 rw [list_sort_plain]
 refine wpAny_bind (listItems_at g rfl (wpAny_bind (listUpdate_at g rfl ?_ (by rw [List.size_toArray,sizeLine_eq];omega) (Nat.zero_le _))))
 obtain ⟨y,g1⟩:∃ y,(s.heap.update c (Obj.mapSeq fun _=>#[])).get? c=some (seqObj "list" #[] y):=⟨_,get?_update_seq g _⟩
 refine wpAny_bind (seqEpoch_at g1 rfl (wpAny_bind (wpAny_newTuple (wpAny_bind (wpAny_newList (wpAny_holding ?_) (Nat.zero_le _))) (by show us.length<=_;rw [sizeLine_eq];omega))))
 have g6:(((s.heap.update c (Obj.mapSeq fun _=>#[])).push (seqObj "tuple" us.toArray 0)).push (seqObj "list" #[] 0)).get? c=some (seqObj "list" #[] y):=
  Heap.get?_push_of_some _ (Heap.get?_push_of_some _ g1)
 have ask:=H (((s.heap.update c (Obj.mapSeq fun _=>#[])).push (seqObj "tuple" us.toArray 0)).push (seqObj "list" #[] 0)) fun b o hb e=>Heap.get?_push_of_some _ (Heap.get?_push_of_some _ ((Heap.get?_update_other _ _ (Ne.symm hb)).trans e))
 show wpAny (model P w) A _ R E ⟨((s.heap.update c (Obj.mapSeq fun _=>#[])).push (seqObj "tuple" us.toArray 0)).push (seqObj "list" #[] 0),s.gens,s.drawn,s.toks,s.os⟩
 dsimp only
 have many:¬ us.toArray.size<2:=by rw [List.size_toArray];omega
 rw [if_neg many,if_neg many]
 refine wpAny_bind (wpAny_mono ask (fun κ s' hk=>?_) fun _ _ x=>x.elim)
 obtain ⟨rfl,hk⟩:=hk
 refine wpAny_bind (wpAny_mono (kat_run (ks:=us) (vs:=us) (κ:=κ) (Q:=fun st' s'=>s' = { s with heap:=((s.heap.update c (Obj.mapSeq fun _=>#[])).push (seqObj "tuple" us.toArray 0)).push (seqObj "list" #[] 0) }/\failedOf st'=none/\(arrOf st').map (·.2)=((sortIx an us.length).map fun i=>us.getD i Value.none).toArray)
  (G:=fun p s'=>s' = { s with heap:=((s.heap.update c (Obj.mapSeq fun _=>#[])).push (seqObj "tuple" us.toArray 0)).push (seqObj "list" #[] 0) }/\p.toList=sortIx an us.length) rfl h2 h64 (fun p st' s' a1 a2 a3 a4=>⟨a4.1,a3,by rw [kat_snds rfl a2,a4.2]⟩)
  (kRun_wp (n:=us.length) (ans:=an) (fun i j C hi hj hC=>hk i j C hi hj hC) (sort_in (by omega)) ⟨rfl,rfl⟩)) (fun r s' hr=>?_) fun _ _ e=>e)
 obtain ⟨⟨⟩,st'⟩:=r
 obtain ⟨rfl,hf,hout⟩:=hr
 dsimp only at hf hout ⊢
 rw [hout]
 have hsz:((sortIx an us.length).map fun i=>us.getD i Value.none).length=us.length:=by
  rw [Zl,(sortIx_perm an (n:=us.length) (by omega)).length_eq,List.length_range]
 refine wpAny_bind (seqEpoch_at g6 rfl (wpAny_bind (listUpdate_at g6 rfl ?_ (hsz2:=by rw [List.size_toArray,hsz,sizeLine_eq];omega))))
 rw [hf]
 simp only [bne_self_eq_false,Bool.false_eq_true,if_false]
 exact wpAny_pure q
theorem sorted_view {r d:Addr}{es:Array DictEntry}{ep:Nat}{Q:Value->Shared->Prop}{an:Nat->Nat->Bool}(hh:A.handled=none)(hv:s.heap.IsItemsView r d)(g:RawD s.heap d es ep)(h2:2<=es.size)(h64:es.size<64)
  (H:∀ (h3:Heap)(tk:Nat)(as:List Addr),(∀ b o,s.heap.get? b=some o->h3.get? b=some o)->as.length=es.size->PrsAt es s.heap.objs.size h3 as->AsksI P w A.in1.in1 (as.map Value.ref) an { s with heap:=h3,toks:=tk })
  (q:∀ (h3:Heap)(tk:Nat)(as:List Addr)(L e:Nat),(∀ b o,s.heap.get? b=some o->h3.get? b=some o)->as.length=es.size->PrsAt es s.heap.objs.size h3 as->s.heap.objs.size<=L->(∀ a∈as,a≠L)->h3.get? L=some (seqObj "list" ((sortIx an es.size).map fun i=>Value.ref (as.getD i 0)).toArray e)->Q (.ref L) { s with heap:=h3,toks:=tk }) :
  wpAny (model P w) A (call (.builtin "sorted") [.ref r]) Q E s:=by
 refine Calls.call_function_entry kind_sorted plain_sorted entry_sorted (args_sorted1 _) ?_
 unfold Builtin.«sorted»
 refine wpAny_bind (m:=checkCount "sorted" 1 1 _) (wpAny_pure (wpAny_bind (cl_I (A:=A.in1) hh hv g (by rw [sizeLine_eq];omega) fun h' tk as kp al pr=>?_)))
 have ul:(as.map Value.ref).length=es.size:=by rw [Zl,al]
 refine wpAny_bind (wpAny_newList ?_ (by rw [ul,sizeLine_eq];omega))
 have gL:(h'.push (seqObj "list" (as.map Value.ref).toArray 0)).get? h'.objs.size=some (seqObj "list" (as.map Value.ref).toArray 0):=Heap.get?_push_size _ rfl
 have hlo:s.heap.objs.size<=h'.objs.size:=by
  match as,al,pr with
  | [],al,_=>rw [List.length_nil] at al;omega
  | a::as,_,pr=>exact Nat.le_of_lt (Nat.lt_trans (pr.over a (List.mem_cons_self ..)) (pr.lt (List.mem_cons_self ..)))
 refine wpAny_bind (wpAny_holding (wpAny_call_entry slot_list_sort (s:={ s with heap:=h'.push (seqObj "list" (as.map Value.ref).toArray 0),toks:=tk }) ⟨_,gL,rfl⟩ entry_list_sort (sort_ix (an:=an) (by omega) (by omega) gL (fun h3 k3=>?_) ⟨_,rfl,?_⟩) (args_list_sort _)))
 ·exact H h3 tk as (fun b o e=>k3 b o (Nat.ne_of_lt (Nat.lt_of_lt_of_le (Heap.lt_size e) hlo)) (Heap.get?_push_of_some _ (kp b o e))) al (pr.stay fun b o hb e=>k3 b o (Nat.ne_of_lt (Heap.lt_size e)) (Heap.get?_push_of_some _ e))
 ·obtain ⟨e,he⟩:=sortedHeap_at (h:=h'.push (seqObj "list" (as.map Value.ref).toArray 0)) (out:=((sortIx an (as.map Value.ref).length).map fun i=>(as.map Value.ref).getD i Value.none).toArray) gL
  have old:∀ b o,h'.get? b=some o->(sortedHeap (h'.push (seqObj "list" (as.map Value.ref).toArray 0)) h'.objs.size (as.map Value.ref) ((sortIx an (as.map Value.ref).length).map fun i=>(as.map Value.ref).getD i Value.none).toArray).get? b=some o:=fun b o x=>by
   rw [sortedHeap_old (Nat.ne_of_lt (Heap.lt_size x)) (by rw [Heap.size_push];exact Nat.lt_succ_of_lt (Heap.lt_size x))]
   exact Heap.get?_push_of_some _ x
  refine wpAny_pure ⟨_,rfl,q _ tk as h'.objs.size e (fun b o x=>old b o (kp b o x)) al (pr.stay fun b o _ x=>old b o x) hlo (fun a ha=>Nat.ne_of_lt (pr.lt ha)) ?_⟩
  rw [he,ul]
  congr 2
  congr 1
  refine List.map_congr_left fun i hi=>?_
  have hi:i<as.length:=by
   have:=List.mem_range.mp ((sortIx_perm an (n:=es.size) (by omega)).mem_iff.mp hi)
   omega
  simp [List.getD,hi]
end
end L3
namespace L3
open PySem L2
section
variable {P:Program}{w:World}{A:Around}{E:Value->Shared->Prop}{s:Shared}{a:Addr}
theorem keys_missL:typeLookup (.type "list") "keys" = pure none:=by rw [typeLookup_type,builtinLookup_eq_fast];kernel_rfl
theorem no_keysL {o:Obj}{xs:Array Value}{k:Nat}{Q:Option Value->Shared->Prop}(g:s.heap.get? a=some o)(g1:o.cls=.type "list") (g2:o.data=.seq xs k)(g3:o.dict=none)(hA:A.handled=none)
  (q:∀ h' tk,(∀ b u,s.heap.get? b=some u->h'.get? b=some u)->Q none { s with heap:=h',toks:=tk }):wpAny (model P w) A (getAttr? (.ref a) "keys") Q E s:=by
 obtain ⟨c,dct,dat,sl⟩:=o
 dsimp only at g1 g2 g3
 subst g1 g2 g3
 obtain ⟨hp,gs,dr,tk,os⟩:=s
 have ty:∀ tk',(⟨hp,gs,dr,tk',os⟩:Shared).TypeIs (.ref a) "list":=fun _=>⟨_,g,rfl⟩
 have e1:=sub_AttributeError
 have e2:=F.slot_list_getattribute.lookup
 have e3:=F.slot_list_getattribute.bind (.ref a)
 have e4:=am_list_getattr_none
 unfold getAttr? getAttrBy? getAttrBy
 repeat (any_goals (first|assumption|exact ty _|((with_reducible show wpAny _ _ (call (Value.builtin "list.__getattribute__") _ _) _ _ _);refine call_meets F.slot_list_getattribute (ty _) am_entry_list_getattribute (F.args_list_getattribute_2 _ _) (meets_getattribute_miss_list a xs k sl "keys" _ keys_missL (by decide +kernel)) ⟨g,hA,fun h' tk' e ne=>?_⟩)|wp_step))
 obtain ⟨y1,y2,there⟩:=ne.there
 show wpAny _ _ (getattributeRaised _ _ _ _ none false false) _ _ _
 unfold getattributeRaised
 repeat (any_goals (first|assumption|wp_step))
 exact q _ _ ne.of.keeps
end
section
variable {X:Cx}{pins:List (Addr×Obj)}{σ:St}{A:Around}{d l it:Addr}{items:Array Value}{R:Result->Shared->Prop}
theorem upd_loopL (hh:A.handled=none)(hu:A.in1.units<cLine)(ld:l≠d)(li:l≠it):∀ (L:List (Addr×List Int×Addr×V))(i:Nat)(ps:PsT)(H:Hp)(s:Shared),Inv X pins σ H s->H d=some (DicT d ps)->KeysT X.K H ps->s.heap.IsList l items->items.toList.drop i=L.map (fun r=>Value.ref r.1)->
  (∀ r∈L,(∃ u,RelV r.2.2.2 u/\PyProof.Rows.IsTup s.heap r.1 #[.ref r.2.2.1,u])/\SqT X.K H r.2.2.1 (r.2.1.map V.int)/\r.1≠d/\r.1≠it)->FpOk X pins H it->s.heap.IsListIter it l i->ps.length+L.length<=sizeLine->
  (∀ s',Inv X pins σ (upd H d (DicT d (foldT ps L))) s'->R (.ok (.ret .none)) s')->codeAny (model X.prog X.w) A (.builtin "dict.update.loop" ⟨[.ref d,.ref it,rawInt i,.none],[]⟩) R s:=by
 intro L
 induction L with
 | nil=>
  intro i ps H s I e hk hl hd hr hf st hz q
  obtain ⟨f0,f1,f2,f3,f4,f5⟩:=hf
  have hlen:items.size<=i:=by
   have:=congrArg List.length hd
   simp at this
   omega
  refine codeAny_builtin upd_entry ?_
  rw [Around.under_plainId upd_plain _]
  show wpAny _ A.in1 (pyNext (.ref it) >>= _) _ _ s
  refine wpAny_bind (wpAny_pyNext_list_end hh st hl (Array.getElem?_eq_none hlen) fun h' eb=>?_)
  have I1:Inv X pins σ H { s with heap:=h' }:=I.turned (t':=s.toks) (fun b o hb e=>eb b o hb e) f0 f1 f3 f4 f5
  show wpAny _ _ (Builtin.Dict.addKeywords d [] >>= _) _ _ _
  refine wpAny_bind (wpAny_pure (wpAny_pure (q _ ?_)))
  have:upd H d (DicT d (foldT ps []))=H:=by
   funext b
   unfold upd
   split
   ·rename_i z;rw [z];exact e.symm
   ·rfl
  rw [this]
  exact I1
 | cons r L ih=>
  intro i ps H s I e hk hl hd hr hf st hz q
  obtain ⟨f0,f1,f2,f3,f4,f5⟩:=id hf
  have hx:items[i]? = some (.ref r.1):=by
   have:=congrArg (·[0]?) hd
   simpa using this
  refine codeAny_builtin upd_entry ?_
  rw [Around.under_plainId upd_plain _]
  show wpAny _ A.in1 (pyNext (.ref it) >>= _) _ _ s
  refine wpAny_bind (wpAny_pyNext_list_item st hl hx fun h' st' sb=>?_)
  have I1:Inv X pins σ H { s with heap:=h' }:=I.turned (t':=s.toks) (fun b o hb e=>(sb.2 b hb).trans e) f0 f1 f3 f4 f5
  obtain ⟨⟨u,ru,t0⟩,sq,r1,r2⟩:=hr r (List.mem_cons_self ..)
  have t1:PyProof.Rows.IsTup ({ s with heap:=h' }:Shared).heap r.1 #[.ref r.2.2.1,u]:=let ⟨o,o1,o2⟩:=t0;⟨o,sb.extBut _ o r2 o1,o2⟩
  refine wpAny_bind (wpAny_holding (wpAny_bind (wpAny_tryCatch (pair_of t1 ?_))))
  have hps:ps.length<sizeLine:=by
   rw [List.length_cons] at hz
   omega
  refine wpAny_holding (dT_put hu I1 e hk sq hps ru fun s' I2 kp=>?_)
  refine wpAny_pure ⟨plainId_quiet upd_plain _,?_⟩
  have hid:it≠d:=fun z=>by
   rw [<- z,f0] at e
   cases e
  have hrest:∀ x∈L,(∃ u,RelV x.2.2.2 u/\PyProof.Rows.IsTup s'.heap x.1 #[.ref x.2.2.1,u])/\SqT X.K (upd H d (DicT d (putT ps r.2.1 r.2.2.1 r.2.2.2))) x.2.2.1 (x.2.1.map V.int)/\x.1≠d/\x.1≠it:=fun x hx=>by
   obtain ⟨⟨u',ru',⟨o,o1,o2⟩⟩,sq',x1,x2⟩:=hr x (List.mem_cons_of_mem _ hx)
   exact ⟨⟨u',ru',o,kp _ o x1 (sb.extBut _ o x2 o1),o2⟩,sqt_upd2 e sq',x1,x2⟩
  have hdr:items.toList.drop (i+1)=L.map (fun r=>Value.ref r.1):=by
   have:=congrArg List.tail hd
   simpa [List.tail_drop] using this
  refine ih (i+1) (putT ps r.2.1 r.2.2.1 r.2.2.2) _ s' I2 upd_same (keysT_put (fun p hp=>sqt_upd2 e (hk p hp)) (sqt_upd2 e sq)) ?_ hdr hrest ⟨by rw [upd_ne hid];exact f0,f1,f2,f3,f4,f5⟩ (st'.at fun o ho=>kp it o hid ho) ?_ fun s'' I''=>q s'' ?_
  ·obtain ⟨o,o1,o2⟩:=hl
   exact ⟨o,kp l o ld (sb.extBut l o li o1),o2⟩
  ·have:=putT_len ps r.2.1 r.2.2.1 r.2.2.2
   rw [List.length_cons] at hz
   omega
  ·rw [upd_twice] at I''
   exact I''
end
end L3
namespace L3
open PySem L2
theorem foldT_new:∀ (L:List (Addr×List Int×Addr×V))(ps:PsT),(ps.map (·.1)++L.map (·.2.1)).Nodup->foldT ps L=ps++L.map (·.2)
 | [],ps,_=>by simp [foldT]
 | r::L,ps,h=>by
  have hn:r.2.1∉ps.map (·.1):=fun z=>by
   rw [List.map_cons] at h
   exact (List.nodup_append.mp h).2.2 _ z _ (List.mem_cons_self ..) rfl
  have e:putT ps r.2.1 r.2.2.1 r.2.2.2=ps++[r.2]:=by
   unfold putT
   rw [if_neg]
   intro z
   obtain ⟨v,hv⟩:=Option.isSome_iff_exists.mp z
   unfold valT at hv
   obtain ⟨p,h1,_⟩:=Zm.mp hv
   have h2:=List.find?_some h1
   simp only [decide_eq_true_eq] at h2
   exact hn (List.mem_map.mpr ⟨p,List.mem_of_find?_eq_some h1,h2⟩)
  show foldT (putT ps r.2.1 r.2.2.1 r.2.2.2) L=_
  rw [e,foldT_new L _ (by simpa using h)]
  simp
section
variable {X:Cx}{pins:List (Addr×Obj)}{σ:St}{H:Hp}{s:Shared}
theorem dict_L (hc:X.calm=true)(hun:X.A.units+64<cLine)(I:Inv X pins σ H s){l:Addr}{e:Nat}{L:List (Addr×List Int×Addr×V)}{Q:VK}(gL:s.heap.get? l=some { cls:=.type "list",data:=.seq (L.map fun r=>Value.ref r.1).toArray e }) (hl:L.length<=sizeLine)
  (hr:∀ r∈L,(∃ u,RelV r.2.2.2 u/\PyProof.Rows.IsTup s.heap r.1 #[.ref r.2.2.1,u])/\SqT X.K H r.2.2.1 (r.2.1.map V.int))(k:∀ d,H d=none->Q (.ref d) (upd H d (DicT d (foldT [] L)))) :
  wpAny (model X.prog X.w) X.A (call (.type "dict") [.ref l]) (EP X pins σ Q) X.xe s:=by
 have hn:H s.heap.objs.size=none:=I.hok.fresh (Nat.le_refl _)
 refine callType_codes (Q₁:=fun obj s₁=>obj=.ref s.heap.objs.size/\s₁ = { s with heap:=s.heap.push { cls:=.type "dict",data:=.dict #[] } }) F.kt_called_dict (F.kt_typeCall_dict_1 _) F.entry_dict_init (kt_code_dict_new _ ⟨rfl,rfl⟩) ?_
 rintro obj s₁ ⟨rfl,rfl⟩
 have I0:Inv X pins σ (upd H s.heap.objs.size (DicT s.heap.objs.size [])) { s with heap:=s.heap.push { cls:=.type "dict",data:=.dict #[] } }:=I.laid (a:=s.heap.objs.size) (o:=DicT s.heap.objs.size []) (t':=s.toks) (fun _ _ q=>Heap.get?_push_of_some _ q) (Nat.le_refl _) (dT_empty s.heap I.big)
 have ty:({ s with heap:=s.heap.push { cls:=.type "dict",data:=.dict #[] } }:Shared).TypeIs (.ref s.heap.objs.size) "dict":=⟨_,Heap.get?_push_size _ rfl,rfl⟩
 refine ⟨ty,F.args_dict_init_2 _ _,?_⟩
 unfold Builtin.«dict.__init__»
 refine wpAny_bind ?_
 unfold Builtin.Dict.selfAndRest
 refine wpAny_bind (wpAny_notOrdered_dict ty ?_)
 show wpAny _ _ (pure (s.heap.objs.size,[Value.ref l])) _ _ _
 refine wpAny_pure ?_
 show wpAny _ _ (Builtin.Dict.updateFrom "dict.__init__" s.heap.objs.size (.ref l) [] .none) _ _ _
 unfold Builtin.Dict.updateFrom
 have mono:∀ {b:Addr}{vs:List V},SqT X.K H b vs->SqT X.K (upd H s.heap.objs.size (DicT s.heap.objs.size [])) b vs:=fun {b vs} z=>by
  have ne:H b≠none->b≠s.heap.objs.size:=fun f y=>by rw [y] at f;exact f hn
  rcases z with (z|⟨ob,z⟩)|z
  ·exact .inl (.inl (by rw [upd_ne (ne (by rw [z];exact fun y=>nomatch y))];exact z))
  ·exact .inl (.inr ⟨ob,by rw [upd_ne (ne (by rw [z];exact fun y=>nomatch y))];exact z⟩)
  ·exact .inr z
 have g0:=Heap.get?_push_of_some { cls:=.type "dict",data:=.dict #[] } gL
 refine wpAny_bind (wpAny_typeOf (T:="list") ⟨_,g0,rfl⟩ ?_)
 rw [if_pos (by decide)]
 refine wpAny_bind (no_keysL g0 rfl rfl rfl (I.ok.hd hc) fun h' tk kp=>?_)
 have I1:Inv X pins σ (upd H s.heap.objs.size (DicT s.heap.objs.size [])) { s with heap:=h',toks:=tk }:=I0.kept (t':=tk) kp
 show wpAny _ _ (rule _ >>= _) _ _ _
 refine wpAny_bind (wpAny_rule ?_)
 have hl1:({ s with heap:=h',toks:=tk }:Shared).heap.IsList l (L.map fun r=>Value.ref r.1).toArray:=⟨_,kp _ _ g0,rfl,_,rfl⟩
 refine wpAny_bind (wpAny_pyIter_list hl1 ?_)
 have I2:=I1.kept (t':=tk) (h':=h'.push { cls:=.type "list_iterator",data:=.fields #[.ref l,.int 0 0] }) fun b o e=>Heap.get?_push_of_some _ e
 refine wpAny_pure ⟨plainId_quiet upd_plain _,?_⟩
 have lt1:∀ {b:Addr}{o:Obj},s.heap.get? b=some o->b≠s.heap.objs.size:=fun x=>Nat.ne_of_lt (Heap.lt_size x)
 have lt2:∀ {b:Addr}{o:Obj},s.heap.get? b=some o->b≠h'.objs.size:=fun x=>Nat.ne_of_lt (Heap.lt_size (kp _ _ (Heap.get?_push_of_some _ x)))
 refine upd_loopL (A:=X.A.in1) (items:=(L.map fun r=>Value.ref r.1).toArray) (I.ok.hd hc) (by show X.A.units+1+1<cLine;omega) (lt1 gL) (lt2 gL) L 0 [] _ _ I2 upd_same (fun p hp=>nomatch hp) (let ⟨o,o1,o2⟩:=hl1;⟨o,Heap.get?_push_of_some _ o1,o2⟩) (by simp) (fun r hr'=>?_) (I1.fpOk (Nat.le_refl _) (I1.hok.fresh (Nat.le_refl _))) ⟨_,Heap.get?_push_size _ rfl,rfl,rfl⟩ (by simpa using hl) fun s' I'=>?_
 ·obtain ⟨⟨u,ru,o,o1,o2⟩,sq⟩:=hr r hr'
  exact ⟨⟨u,ru,o,Heap.get?_push_of_some _ (kp _ _ (Heap.get?_push_of_some _ o1)),o2⟩,mono sq,lt1 o1,lt2 o1⟩
 ·rw [upd_twice] at I'
  exact ⟨rfl,.ref s.heap.objs.size,_,I',rfl,k _ hn⟩
end
end L3
namespace L3
open PySem L2
noncomputable def sortT (ps:PsT):PsT:=(sortIx (fun i j=>HT.lexLt ((ps.map (·.1)).getD i []) ((ps.map (·.1)).getD j [])) ps.length).map fun i=>ps.getD i ([],0,.non)
theorem sortT_perm {ps:PsT}(h:0<ps.length):(sortT ps).Perm ps:=by
 unfold sortT
 have p:=(sortIx_perm (fun i j=>HT.lexLt ((ps.map (·.1)).getD i []) ((ps.map (·.1)).getD j [])) h).map fun i=>ps.getD i ([],0,.non)
 have e:(List.range ps.length).map (fun i=>ps.getD i ([],0,.non))=ps:=by
  refine List.ext_getElem (by simp) fun i h1 h2=>?_
  simp [List.getD,h2]
 rw [e] at p
 exact p
section
variable {X:Cx}{pins:List (Addr×Obj)}{σ:St}{H:Hp}{s:Shared}
theorem dsort_V (hc:X.calm=true)(hun:X.A.units+64<cLine)(I:Inv X pins σ H s){d r:Addr}{ps:PsT}{Q:VK}(e:H d=some (DicT d ps))(hk:KeysT X.K H ps)(h2:2<=ps.length)(h64:ps.length<64)(hv:s.heap.IsItemsView r d)(k:∀ l,H l=none->Q (.ref l) (upd H l (DicT l (sortT ps)))) :
  wpAny (model X.prog X.w) X.A (call (.builtin "sorted") [.ref r]) (fun v s'=>wpAny (model X.prog X.w) X.A (call (.type "dict") [v]) (EP X pins σ Q) X.xe s') X.xe s:=by
 obtain ⟨lo,hl,ws,rv,z,es,ep,z1,z2,z3,z4,z5,z6⟩:=dT_at I e hk
 have hwl:ws.length=ps.length:=by
  have:=rv.length
  rw [Zl] at this
  exact this.symm
 have hxl:(xsT ps ws).length=ps.length:=by unfold xsT;rw [List.length_zipWith,hwl,Nat.min_self]
 have hes:es.size=ps.length:=by rw [<- Array.length_toList,z4,Zl,hxl]
 have nd:(ps.map (·.1)).Nodup:=by rw [xsT_keys rv] at z6;exact z6
 have at_:∀ (j:Nat)(en:DictEntry),es[j]? = some en->∃ p u,ps[j]? = some p/\ws[j]? = some u/\en.key=.ref p.2.1/\en.val=u:=fun j en h=>by
  rw [<- Array.getElem?_toList,z4,List.getElem?_map] at h
  obtain ⟨x,h1,rfl⟩:=Zm.mp h
  unfold xsT at h1
  rw [List.getElem?_zipWith] at h1
  cases hp:ps[j]? with
  | none=>rw [hp] at h1;simp at h1
  | some p=>
   cases hw:ws[j]? with
   | none=>rw [hp,hw] at h1;simp at h1
   | some u=>
    rw [hp,hw] at h1
    have:(p.1,p.2.1,u)=x:=by simpa using h1
    subst this
    exact ⟨p,u,rfl,rfl,rfl,rfl⟩
 refine sorted_view (an:=fun i j=>HT.lexLt ((ps.map (·.1)).getD i []) ((ps.map (·.1)).getD j [])) (I.ok.hd hc) hv ⟨z,z1,z2,z3⟩ (by omega) (by omega) (fun h3 tk as kp al pr=>?_) (fun h3 tk as L en kp al pr hL nL gL=>?_)
 ·have I3:Inv X pins σ H { s with heap:=h3,toks:=tk }:=I.kept (t':=tk) kp
  refine asks_I (A:=X.A.in1.in1) (s:={ s with heap:=h3,toks:=tk }) (bs:=ps.map (·.2.1)) (ks:=ps.map (·.1)) (by show X.A.units+1+1<cLine;omega) pr (by omega) al (by rw [Zl,hes]) (by rw [Zl,hes]) (fun j en hj=>?_) nd
  obtain ⟨p,u,p1,p2,p3,p4⟩:=at_ j en hj
  have hjl:j<ps.length:=(Zg.mp p1).1
  have eb:(ps.map (·.2.1)).getD j 0=p.2.1:=by simp [List.getD,p1]
  have ek:(ps.map (·.1)).getD j []=p.1:=by simp [List.getD,p1]
  rw [eb,ek]
  have sq:=hk p (List.mem_of_getElem? p1)
  refine ⟨p3,isT_of I3 sq,?_⟩
  obtain ⟨xs,rx,t,_⟩:=I3.tuple sq
  exact ⟨xs,t,ints_of rx⟩
 ·have I3:Inv X pins σ H { s with heap:=h3,toks:=tk }:=I.kept (t':=tk) kp
  rw [hes] at gL
  have hsl:=(sortIx_perm (fun i j=>HT.lexLt ((ps.map (·.1)).getD i []) ((ps.map (·.1)).getD j [])) (n:=ps.length) (by omega))
  have hin:∀ i∈sortIx (fun i j=>HT.lexLt ((ps.map (·.1)).getD i []) ((ps.map (·.1)).getD j [])) ps.length,i<ps.length:=fun i hi=>List.mem_range.mp (hsl.mem_iff.mp hi)
  generalize hix:sortIx (fun i j=>HT.lexLt ((ps.map (·.1)).getD i []) ((ps.map (·.1)).getD j [])) ps.length=ix at gL hsl hin
  have hst:sortT ps=ix.map fun i=>ps.getD i ([],0,.non):=by unfold sortT;rw [hix]
  refine dict_L hc hun I3 (L:=ix.map fun i=>(as.getD i 0,ps.getD i ([],0,.non))) (e:=en) ?_ (by rw [Zl,hsl.length_eq,List.length_range];exact hl) (fun r hr=>?_) fun l hl'=>?_
  ·rw [List.map_map]
   exact gL
  ·obtain ⟨i,hi,rfl⟩:=List.mem_map.mp hr
   have hi':=hin i hi
   have hia:as[i]? = some (as.getD i 0):=by simp [List.getD,show i<as.length by omega]
   obtain ⟨x,x1,x2⟩:=pr.prs i _ hia
   obtain ⟨p,u,p1,p2,p3,p4⟩:=at_ i x x1
   have ep:ps.getD i ([],0,.non)=p:=by simp [List.getD,p1]
   dsimp only
   rw [ep]
   obtain ⟨u',g1,g2⟩:=rv.get (i:=i) (x:=p.2.2) (by rw [List.getElem?_map,p1];rfl)
   rw [p2] at g1
   cases g1
   rw [p3,p4] at x2
   exact ⟨⟨u,g2,_,x2,rfl,_,rfl⟩,hk p (List.mem_of_getElem? p1)⟩
  ·have hf:foldT [] (ix.map fun i=>(as.getD i 0,ps.getD i ([],0,.non)))=sortT ps:=by
    rw [foldT_new _ [] ?_,List.nil_append,List.map_map,hst]
    ·rfl
    ·rw [List.map_nil,List.nil_append,List.map_map]
     have pm:=(sortT_perm (ps:=ps) (by omega)).map (·.1)
     rw [hst,List.map_map] at pm
     exact pm.nodup_iff.mpr nd
   rw [hf]
   exact k l hl'
end
end L3
namespace L3
open PySem L2
section
variable {P:Program}{w:World}
theorem items_T (d:Addr)(hd:(d == sysModules)=false):MeetsIn P w (Builtin.«dict.items» ⟨[.ref d],[]⟩) (fun _ R s=>(∃ es ep,RawD s.heap d es ep) /\
   R (.ok (.ret (.ref s.heap.objs.size))) { s with heap:=s.heap.push { cls:=.type "dict_items",data:=.fields #[.ref d] } }):=
 .of_wp fun A R s ⟨⟨es,ep,g⟩,h⟩=>by
  unfold Builtin.«dict.items»
  refine wpAny_bind ?_
  unfold Builtin.Dict.noArgs
  refine wpAny_bind (wpAny_notOrdered_dict g.ty ?_)
  show wpAny _ _ (pure d) _ _ s
  refine wpAny_pure ?_
  show wpAny _ _ (Builtin.Dict.showsAll d >>= _) _ _ s
  unfold Builtin.Dict.showsAll
  rw [if_neg (by rw [hd];exact Bool.false_ne_true)]
  refine wpAny_bind (wpAny_pure ?_)
  exact wpAny_bind (wpAny_newObj_type (wpAny_pure ⟨_,rfl,h⟩))
end
noncomputable def rDSort (K:PySem.W.Frag):V->List V->Hp->VK->Prop:=fun x _ H Q=>∃ a ps,x=.ref a/\H a=some (DicT a ps)/\KeysT K H ps/\2<=ps.length/\ps.length<64/\∀ l,H l=none->Q (.ref l) (upd H l (DicT l (sortT ps)))
section
variable {X:Cx}{o:Expr}{to:TE}{apos cpos p p2 pos pos2:Pos}
theorem pe_dsort (hc:X.calm=true)(hun:X.A.units+64<cLine)(hm1:X.mg "sorted" = none) (hm2:X.mg "dict" = none) (hg1:Gl X "sorted") (hg2:Gl X "dict") (ho:PE X o to)
  (hbase:attributeBase o "items" X.env (eval o X.env)=eval o X.env) (hline:(apos.endLine == cpos.line)=true) :
  PE X (.Call (.Name "dict" p) [.Call (.Name "sorted" p2) [.Call (.Attribute o "items" apos) [] [] cpos] [] pos2] [] pos) (fun σ H Q=>to σ H fun x H1=>rDSort X.K x [] H1 Q):=by
 intro pins s σ H Q I h
 refine wpAny_Call_Name_kw (ld_blt I hg2 hm2 PyProof.Rows.Boot.«dict» ?_)
 refine PyProof.Rows.callWith_type1 ?_ rfl rfl
 refine Calls.spliced_cons ?_
 refine wpAny_Call_Name_kw (ld_blt I hg1 hm1 PyProof.Rows.Boot.«sorted» ?_)
 refine PyProof.Rows.callWith_builtin1 ?_ rfl rfl
 refine Calls.spliced_cons ?_
 refine wpAny_Call_method0_late hbase hline (thn (ho pins s σ H _ I h) fun v s1 ⟨x,H1,I1,r1,a,ps,ex,e,hk,h2,h64,q⟩=>?_)
 subst ex
 obtain rfl:v=Value.ref a:=r1
 obtain ⟨lo,hl,es,ep,g,he⟩:=dT_raw I1 e hk
 refine ⟨"dict","dict.items",PySem.F.plainAttrs_dict,PySem.F.slot_dict_items,PySem.F.type_dict_items,g.ty,fun b eb=>?_,Calls.callWith_builtin rfl (PySem.evalArgs_none ?_)⟩
 ·cases eb
  obtain ⟨z,g1,g2,_⟩:=g
  exact ⟨z,g1,g2.2.1⟩
 refine call_meetsIn PySem.F.slot_dict_items g.ty PySem.F.entry_dict_items (PySem.F.args_dict_items_1 _) (items_T a lo) ⟨⟨es,ep,g⟩,?_⟩
 refine Calls.spliced_nil ?_
 have I2:Inv X pins σ H1 { s1 with heap:=s1.heap.push { cls:=.type "dict_items",data:=.fields #[.ref a] } }:=I1.kept (t':=s1.toks) fun b o e=>Heap.get?_push_of_some _ e
 refine thn (dsort_V hc hun I2 e hk h2 h64 ⟨_,Heap.get?_push_size _ rfl,rfl,rfl⟩ q) fun v s' hv=>Calls.spliced_nil hv
end
noncomputable def sortKV (kvs:List (List Int×D)):List (List Int×D):=(sortIx (fun i j=>HT.lexLt ((kvs.map (·.1)).getD i []) ((kvs.map (·.1)).getD j [])) kvs.length).map fun i=>kvs.getD i ([],.non)
noncomputable def dsortM:D->Hm->Option (D×Hm)
 | .loc a,μ=>match μ[a]? with
  | some (.dT kvs)=>if 2<=kvs.length/\kvs.length<64 then some (.loc μ.length,μ++[.dT (sortKV kvs)]) else none
  | _=>none
 | _,_=>none
noncomputable def mDSort (m:ME):ME:=fun ρ μ=>(m ρ μ).bind fun r=>dsortM r.1 r.2
theorem paired_at {α β:Type}{R:α->β->Prop}{as:List α}{bs:List β}(h:Paired R as bs)(a0:α)(b0:β):∀ i,i<as.length->R (as.getD i a0) (bs.getD i b0):=by
 induction h with
 | nil=>exact fun i hi=>nomatch hi
 | cons e t ih=>
  intro i hi
  cases i with
  | zero=>exact e
  | succ i=>exact ih i (by simpa using hi)
theorem paired_map {α β:Type}{R:α->β->Prop}{f:Nat->α}{g:Nat->β}:∀ {l:List Nat},(∀ i∈l,R (f i) (g i))->Paired R (l.map f) (l.map g)
 | [],_=>.nil
 | i::l,h=>.cons (h i (List.mem_cons_self ..)) (paired_map fun j hj=>h j (List.mem_cons_of_mem _ hj))
theorem sortT_is {K:PySem.W.Frag}{π:Nat->Addr}{n:Nat}{H:Hp}{ps:PsT}{kvs:List (List Int×D)}(h:IsTs K π n H ps kvs)(h0:0<kvs.length):ps.length=kvs.length/\IsTs K π n H (sortT ps) (sortKV kvs):=by
 have ek:=h.to.1
 have el:ps.length=kvs.length:=by
  have:=congrArg List.length ek
  simpa using this
 refine ⟨el,?_⟩
 unfold sortT sortKV
 rw [ek,el]
 refine paired_map fun i hi=>paired_at h _ _ i ?_
 have:=List.mem_range.mp ((sortIx_perm _ (n:=kvs.length) h0).mem_iff.mp hi)
 omega
theorem dsort_read {K:PySem.W.Frag}{mo:ME}:∀ σ H Q,tM K (mDSort mo) σ H Q->tM K mo σ H fun x H1=>rDSort K x [] H1 Q:=by
 rintro σ H Q ⟨π,ρ,μ,d,μ',R,E,hm,k⟩
 obtain ⟨⟨x,μ1⟩,h1,hm⟩:=Zb.mp hm
 refine ⟨π,ρ,μ,x,μ1,R,E,h1,fun π1 v1 H1 e1 R1 i1=>?_⟩
 have k1:=k.after e1
 dsimp only at hm
 unfold dsortM at hm
 split at hm
 ·split at hm
  ·rename_i kvs hc
   split at hm
   ·rename_i hb
    cases hm
    cases i1
    obtain ⟨ps,e2,T⟩:=dT_rp R1 hc
    obtain ⟨el,T2⟩:=sortT_is T (by omega)
    refine ⟨_,ps,rfl,e2,T.keys,by omega,by omega,fun l hl=>?_⟩
    obtain ⟨e3,R3,q3⟩:=R1.alloc (c:=.dT (sortKV kvs)) (o:=DicT l (sortT ps)) hl ⟨_,rfl,T2.to.1,T2.to.2.1,T2.to.2.2⟩
    exact k1 _ _ _ e3 R3 alloc_loc
   ·cases hm
  ·cases hm
 ·cases hm
theorem e_dsort {X:Cx}{o:Expr}{mo:ME}{apos cpos p p2 pos pos2:Pos}(hc:X.calm=true)(hun:X.A.units+64<cLine)(hm1:X.mg "sorted" = none) (hm2:X.mg "dict" = none) (hg1:Gl X "sorted") (hg2:Gl X "dict") (ho:QE X o mo)(hs:noSup o=true)(hl:(apos.endLine == cpos.line)=true) :
  QE X (.Call (.Name "dict" p) [.Call (.Name "sorted" p2) [.Call (.Attribute o "items" apos) [] [] cpos] [] pos2] [] pos) (mDSort mo):=
 ⟨pm_weak (pe_dsort hc hun hm1 hm2 hg1 hg2 ho.h (base_of hs) hl) dsort_read⟩
end L3
namespace L3
open PySem L2
noncomputable def mDisp1 (mk mv:ME):ME:=fun ρ μ=>(mk ρ (μ++[.dT []])).bind fun p=>(mv ρ p.2).bind fun q=>match q.2[μ.length]? with
 | some (.dT [])=>(keyT p.1).map fun k=>(.loc μ.length,q.2.set μ.length (.dT [(k,q.1)]))
 | _=>none
section
variable {X:Cx}{k v:Expr}{mk mv:ME}{tk tv:TE}{pos:Pos}
noncomputable def tDisp1 (K:PySem.W.Frag)(tk tv:TE):TE:=fun σ H Q=>∀ p,H p=none->tk σ (upd H p (DicT p [])) fun x H1=>tv σ H1 fun y H2=>H2 p=some (DicT p [])/\∃ b kk,x=.ref b/\SqT K H2 b (kk.map V.int)/\Q (.ref p) (upd H2 p (DicT p [(kk,b,y)]))
theorem pe_disp1 (hu:X.A.units+1<cLine)(hk:PE X k tk)(hv:PE X v tv):PE X (.Dict [some k] [v] pos) (tDisp1 X.K tk tv):=by
 intro pins s σ H Q I q
 have hn:=I.hok.fresh (Nat.le_refl s.heap.objs.size)
 have I1:=I.laid (a:=s.heap.objs.size) (o:=DicT s.heap.objs.size []) (h':=s.heap.push { cls:=.type "dict",data:=.dict #[] }) (t':=s.toks) (fun _ _ q=>Heap.get?_push_of_some _ q) (Nat.le_refl _) (dT_empty s.heap I.big)
 refine wpAny_Dict_any rfl rfl (by simp) (by simp) (pairTrees_cons_walk (thn (hk pins _ σ _ _ I1 (q _ hn)) fun u s1 ⟨x,H1,I2,rx,q1⟩=>thn (hv pins s1 σ H1 _ I2 q1) fun u2 s2 ⟨y,H2,I3,ry,e,b,kk,ex,hb,q2⟩=>pairTrees_nil_walk ?_))
 subst ex
 obtain rfl:u=Value.ref b:=rx
 unfold storeAll
 refine wpAny_bind (wpAny_bind (dT_put (by omega) I3 e (fun p hp=>nomatch hp) hb (by rw [sizeLine_eq];simp) ry fun s' I' _=>wpAny_pure (wpAny_pure ?_)))
 exact ⟨.ref s.heap.objs.size,_,I',rfl,q2⟩
theorem e_disp1 {n:Nat}(hr:Room n X.A)(hk:QE X k mk)(hv:QE X v mv):QE X (.Dict [some k] [v] pos) (mDisp1 mk mv):=⟨pm_weak (pe_disp1 (hu1 hr) hk.h hv.h) (by
 rintro σ H Q ⟨π,ρ,μ,d,μ',R,E,hm,kc⟩ p hp
 obtain ⟨⟨x,μ1⟩,h1,hm⟩:=Zb.mp hm
 obtain ⟨⟨y,μ2⟩,h2,hm⟩:=Zb.mp hm
 obtain ⟨e1,R1,q1⟩:=R.alloc (c:=.dT []) (o:=DicT p []) hp ⟨[],rfl,rfl,.nil,.nil⟩
 refine ⟨_,ρ,_,x,μ1,R1,E.mono e1,h1,fun π1 v1 H1 e2 R2 i1=>⟨π1,ρ,μ1,y,μ2,R2,(E.mono e1).mono e2,h2,fun π2 v2 H2 e3 R3 i2=>?_⟩⟩
 dsimp only at hm
 split at hm
 ·rename_i hc
  obtain ⟨kk,hkk,hm⟩:=Zm.mp hm
  cases hm
  have hlt:μ.length<μ2.length:=(Zg.mp hc).1
  have hl1:(μ++[C.dT []]).length<=μ1.length:=e2.le
  have hpi:π2 μ.length=p:=by rw [e3.pi μ.length (by simp at hl1;omega),e2.pi μ.length (by simp),q1]
  obtain ⟨ps,f1,T⟩:=dT_rp R3 hc
  cases T
  obtain ⟨b,rfl,hb⟩:=keyT_of (i1.mono e3) hkk
  obtain ⟨e4,R4⟩:=R3.put (a:=μ.length) (c:=.dT [(kk,y)]) (o:=DicT _ [(kk,b,v2)]) hlt f1 (.inr (.inr ⟨_,rfl⟩)) (by
   have T':IsTs X.K π2 μ2.length H2 [(kk,b,v2)] [(kk,y)]:=.cons ⟨rfl,hb,i2⟩ .nil
   exact ⟨_,rfl,T'.to.1,T'.to.2.1,T'.to.2.2⟩)
  rw [hpi] at f1 e4 R4
  refine ⟨f1,b,kk,rfl,hb,kc π2 _ _ (((e1.trans e2).trans e3).trans e4) R4 ?_⟩
  rw [<- hpi]
  exact .loc (by rw [List.length_set];exact hlt)
 ·cases hm)⟩
end
end L3
namespace L3
open PySem L2
structure Sig where
 fn:List (Str×Nat)
 con:List (Str×D)
 tab:List (Str×List (Key×D))
 no:List Str
structure Cs where
 N:List Str
 ks:List (Str×NameKind)
noncomputable def idx (x:Str):List Str->Option Nat
 | []=>none
 | y::r=>if x=y then some 0 else (idx x r).map (·+1)
theorem idx_get {x:Str}:∀ {N:List Str}{i:Nat},idx x N=some i->N[i]? = some x
 | [],_,h=>by cases h
 | y::r,i,h=>by
  unfold idx at h
  split at h
  ·rename_i e;cases h;subst e;rfl
  ·obtain ⟨j,h1,h2⟩:=Zm.mp h
   subst h2
   have:=idx_get h1
   simpa using this
noncomputable def glob (c:Cs)(x:Str):Bool:=decide (c.ks.lookup x=some .globalImplicit)&&!(x == ("__debug__":Str))
noncomputable def seen (c:Cs)(x:Str):Bool:=(decide (c.ks.lookup x=some .local)||decide (c.ks.lookup x=some .cell)||decide (c.ks.lookup x=some .free))&&!(x == ("__debug__":Str))&&!(x == ("__classdict__":Str))
noncomputable def owned (c:Cs)(x:Str):Bool:=decide (c.ks.lookup x=some .local)||decide (c.ks.lookup x=some .cell)
noncomputable def tyName (x:Str):Option String:=
 if x = "int" then some "int" else if x = "bool" then some "bool" else if x = "str" then some "str" else if x = "list" then some "list" else if x = "tuple" then some "tuple" else if x = "dict" then some "dict" else none
theorem tyName_ok {x:Str}{n:String}(h:tyName x=some n):bootBuiltins x=some (.type n)/\x ≠ "__name__":=by
 unfold tyName at h
 split at h
 ·rename_i e;subst e;cases h;exact ⟨PyProof.Rows.Boot.«int»,by decide⟩
 split at h
 ·rename_i e;subst e;cases h;exact ⟨PyProof.Rows.Boot.«bool»,by decide⟩
 split at h
 ·rename_i e;subst e;cases h;exact ⟨PyProof.Rows.Boot.«str»,by decide⟩
 split at h
 ·rename_i e;subst e;cases h;exact ⟨PyProof.Rows.Boot.«list»,by decide⟩
 split at h
 ·rename_i e;subst e;cases h;exact ⟨PyProof.Rows.Boot.«tuple»,by decide⟩
 split at h
 ·rename_i e;subst e;cases h;exact ⟨PyProof.Rows.Boot.«dict»,by decide⟩
 ·cases h
noncomputable def trN (S:Sig)(c:Cs)(x:Str):ME:=
 if seen c x=true then (match idx x c.N with|some i=>mVar i|none=>mBad)
 else if glob c x=true then (match S.con.lookup x with
  | some d=>mC d
  | none=>if S.no.contains x=true then (match tyName x with|some n=>mC (.ty n)|none=>mBad) else mBad)
 else mBad
noncomputable def trA (r:Expr->ME):List Expr->MA
 | []=>mNil
 | e::es=>mCons (r e) (trA r es)
noncomputable def trBo (op:BoolOp):List ME->ME
 | []=>mBad
 | [m]=>m
 | m::r=>match op with
  | .And=>mAndV m (trBo op r)
  | .Or=>mOrV m (trBo op r)
noncomputable def trBoT (op:BoolOp):List MT->MT
 | []=>mBadT
 | [m]=>m
 | m::r=>match op with
  | .And=>mAndT m (trBoT op r)
  | .Or=>mOrT m (trBoT op r)
noncomputable def trBin (op:Operator)(a b:ME):ME:=match op with
 | .Add=>mOp addD a b
 | .Sub=>mOp subD a b
 | .Mult=>mOp mulD a b
 | .FloorDiv=>mOp fdivD a b
 | .Mod=>mOp modD a b
 | .Pow=>mOp powD a b
 | _=>mBad
noncomputable def trCmp (op:CmpOp)(ns:Bool)(a b:ME):ME:=match op with
 | .Eq=>mOp (eqM false) a b
 | .NotEq=>mOp (eqM true) a b
 | .Lt=>mOp ltD a b
 | .LtE=>mOp leD a b
 | .Gt=>mOp gtD a b
 | .GtE=>mOp geD a b
 | .In=>if ns=true then mOp (inD false) a b else mBad
 | .NotIn=>if ns=true then mOp (inD true) a b else mBad
 | .Is=>mOp (isM false) a b
 | .IsNot=>mOp (isM true) a b
noncomputable def trOp (r:Expr->ME):Option Expr->MO
 | none=>mNoPart
 | some e=>mPart (r e)
noncomputable def lenA:MF:=fun ds μ=>match ds with
 | [.loc a]=>match μ[a]? with
  | some (.lst xs)=>some (.int xs.length,μ)
  | some (.dK kvs)=>some (.int kvs.length,μ)
  | some (.st ks)=>some (.int ks.length,μ)
  | some (.dT kvs)=>some (.int kvs.length,μ)
  | _=>none
 | _=>lenM ds μ
noncomputable def tupleM:MF:=fun ds μ=>match ds with
 | [x]=>(seqD μ x).map fun xs=>(.tup xs,μ)
 | _=>none
theorem tupleM_ok {K:PySem.W.Frag}:CallD K tupleM (fun xs H Q=>∃ p ys,xs=[.ref p]/\((SqL K H p ys/\∀ l,H l=none->Q (.ref l) (upd H l (.tup ys)))\/(SqT K H p ys/\Q (.ref p) H))):=by
 intro π H μ xs d μ' vs Q R i hm k
 unfold tupleM at hm
 split at hm
 ·obtain ⟨ys,h1,h2⟩:=Zm.mp hm
  cases h2
  cases i with
  | cons i t=>
   cases t
   obtain ⟨p,ws,rfl,q,hd⟩:=seq_of R i h1
   refine ⟨p,ws,rfl,?_⟩
   rcases q with q|q
   ·refine .inl ⟨q,fun l hl=>?_⟩
    obtain ⟨e2,R2⟩:=R.fresh (o:=.tup ws) hl
    exact k π _ _ e2 R2 (.tup (.of upd_same) (hd.mono e2))
   ·exact .inr ⟨q,k π _ H .refl R (.tup q hd)⟩
 ·cases hm
noncomputable def listA:MF:=fun ds μ=>match ds with
 | [.loc a]=>match μ[a]? with
  | some (.dT kvs)=>some (.loc μ.length,μ++[.lst (kvs.map fun k=>D.tup (k.1.map D.int))])
  | _=>listM [.loc a] μ
 | ds=>listM ds μ
theorem listA_ok {K:PySem.W.Frag}:CallD K listA (fun xs H Q=>(∃ p ys,xs=[.ref p]/\(SqL K H p ys\/SqT K H p ys)/\∀ l,H l=none->Q (.ref l) (upd H l (.lst ys)))\/rListX K xs H Q):=by
 intro π H μ xs d μ' vs Q R i hm k
 unfold listA at hm
 split at hm
 ·rename_i a
  split at hm
  ·rename_i kvs hy
   cases hm
   cases i with
   | cons i t=>
    cases t
    cases i
    obtain ⟨ps,h1,T⟩:=dT_rp R hy
    refine .inr ⟨_,ps,rfl,h1,T.keys,fun l hl=>?_⟩
    obtain ⟨e2,R2,_⟩:=R.alloc (c:=.lst (kvs.map fun k:List Int×D=>D.tup (k.1.map D.int))) (o:=.lst (ps.map fun p:List Int×Addr×V=>V.ref p.2.1)) hl T.to.2.1
    exact k _ _ _ e2 R2 alloc_loc
  ·exact .inl (listM_ok π H μ _ d μ' vs Q R i hm k)
 ·exact .inl (listM_ok π H μ _ d μ' vs Q R i hm k)
noncomputable def bltB (x:Str):Option MF:=
 if x = "len" then some lenA
 else if x = "isinstance" then some isInst
 else if x = "int" then some intM
 else if x = "list" then some listA
 else if x = "tuple" then some tupleM
 else if x = "all" then some allM
 else if x = "sorted" then some sortedA
 else if x = "sum" then some sumM
 else none
noncomputable def rLenA (K:PySem.W.Frag):List V->Hp->VK->Prop:=fun xs H Q=>rLenM K xs H Q\/(∃ a kvs,xs=[V.ref a]/\H a=some (.dK kvs)/\Q (.int kvs.length) H)\/(∃ a L,xs=[V.ref a]/\H a=some (SetT a L)/\Q (.int L.length) H)\/rLenX K xs H Q
theorem lenA_ok {K:PySem.W.Frag}:CallD K lenA (rLenA K):=by
 intro π H μ xs d μ' vs Q R i hm k
 unfold lenA at hm
 split at hm
 ·rename_i a
  split at hm
  ·rename_i ys hy
   refine .inl (lenM_ok π H μ _ d μ' vs Q R i ?_ k)
   simp only [lenM,seqD,hy]
   exact hm
  ·rename_i kvs hy
   cases hm
   cases i with
   | cons i t=>
    cases t
    cases i
    obtain ⟨ws,h1,h2,_⟩:=R.dK a kvs hy
    refine .inr (.inl ⟨_,ws,rfl,h1,?_⟩)
    have:=congrArg List.length h2
    rw [Zl,Zl] at this
    rw [this]
    exact k π _ H .refl R (.int _)
  ·rename_i ks hy
   cases hm
   cases i with
   | cons i t=>
    cases t
    cases i
    obtain ⟨L,h1,h2,_⟩:=R.st a ks hy
    have:=congrArg List.length h2
    rw [Zl] at this
    refine .inr (.inr (.inl ⟨_,L,rfl,h1,?_⟩))
    rw [this]
    exact k π _ H .refl R (.int _)
  ·rename_i kvs hy
   cases hm
   cases i with
   | cons i t=>
    cases t
    cases i
    obtain ⟨ps,h1,T⟩:=dT_rp R hy
    have:=congrArg List.length T.to.1
    rw [Zl,Zl] at this
    refine .inr (.inr (.inr ⟨_,ps,rfl,h1,T.keys,?_⟩))
    rw [this]
    exact k π _ H .refl R (.int _)
  ·cases hm
 ·exact .inl (lenM_ok π H μ _ d μ' vs Q R i hm k)
theorem bltB_ok {X:Cx}{x:Str}{f:MF}(hcalm:X.calm=true)(hun:X.A.units+64<cLine)(h:bltB x=some f):∃ v r,bootBuiltins x=some v/\((∃ id,v=.builtin id)\/∃ T,v=.type T)/\CallR X v r/\CallD X.K f r/\x ≠ "__name__":=by
 unfold bltB at h
 split at h
 ·rename_i e;subst e;cases h;exact ⟨_,_,PyProof.Rows.Boot.«len»,.inl ⟨_,rfl⟩,call_lenM.or (call_lenD.or (call_lenT.or call_lenX)),lenA_ok,by decide⟩
 split at h
 ·rename_i e;subst e;cases h;exact ⟨_,_,PyProof.Rows.Boot.«isinstance»,.inl ⟨_,rfl⟩,call_isInst,isInst_ok,by decide⟩
 split at h
 ·rename_i e;subst e;cases h;exact ⟨_,_,PyProof.Rows.Boot.«int»,.inr ⟨_,rfl⟩,call_int1,intM_ok,by decide⟩
 split at h
 ·rename_i e;subst e;cases h;exact ⟨_,_,PyProof.Rows.Boot.«list»,.inr ⟨_,rfl⟩,call_list_of.or (call_listX hcalm),listA_ok,by decide⟩
 split at h
 ·rename_i e;subst e;cases h;exact ⟨_,_,PyProof.Rows.Boot.«tuple»,.inr ⟨_,rfl⟩,call_tuple_of,tupleM_ok,by decide⟩
 split at h
 ·rename_i e;subst e;cases h;exact ⟨_,_,PyProof.Rows.Boot.«all»,.inl ⟨_,rfl⟩,call_allA hcalm,allA_ok rfl,by decide⟩
 split at h
 ·rename_i e;subst e;cases h;exact ⟨_,_,PyProof.Rows.Boot.«sorted»,.inl ⟨_,rfl⟩,call_sortI.or call_sortT,sortedA_ok,by decide⟩
 split at h
 ·rename_i e;subst e;cases h;exact ⟨_,_,PyProof.Rows.Boot.«sum»,.inl ⟨_,rfl⟩,call_sumA hcalm,sumM_ok,by decide⟩
 ·cases h
noncomputable def bltM (x:Str):Option MF:=
 if x = "dict" then some dictM else
 bltB x
theorem bltM_ok {X:Cx}{x:Str}{f:MF}(hcalm:X.calm=true)(hun:X.A.units+64<cLine)(h:bltM x=some f):∃ v r,bootBuiltins x=some v/\((∃ id,v=.builtin id)\/∃ T,v=.type T)/\CallR X v r/\CallD X.K f r/\x ≠ "__name__":=by
 unfold bltM at h
 split at h
 ·rename_i e;subst e;cases h;exact ⟨_,_,PyProof.Rows.Boot.«dict»,.inr ⟨_,rfl⟩,call_dictP hcalm hun,dictM_ok,by decide⟩
 exact bltB_ok hcalm hun h
noncomputable def methM (m:Str)(n:Nat):Option (D->List D->Hm->Option (D×Hm)):=
 if n=1 then (if m = "append" then some appendM
  else if m = "extend" then some extendM
  else if m = "index" then some indexM
  else none)
 else if n=0 then (if m = "clear" then some clearM else if m = "pop" then some popM else if m = "reverse" then some reverseM else none)
 else none
noncomputable def trCall (S:Sig)(F:Str->MF)(r:Expr->ME)(c:Cs)(f:Expr)(args:List Expr)(cpos:Pos):ME:=match f with
 | .Name x _=>if glob c x&&args.all noStar then (match S.fn.lookup x with
   | some n=>if args.length=n then mCall (F x) (trA r args) else mBad
   | none=>if S.no.contains x&&!args.isEmpty then (match bltM x with|some g=>mCall g (trA r args)|none=>mBad) else mBad)
  else mBad
 | .Attribute o m apos=>if noSup o&&(apos.endLine == cpos.line)&&args.all noStar then (match methM m args.length with
   | some g=>mMeth g (r o) (trA r args)
   | none=>
    mBad)
  else mBad
 | _=>mBad
noncomputable def lstM:Bool->MF
 | false=>listRngM
 | true=>listRngM
noncomputable def trCall2 (S:Sig)(F:Str->MF)(r:Expr->ME)(c:Cs)(f:Expr)(args:List Expr)(cpos:Pos):ME:=
 trCall S F r c f args cpos
noncomputable def dsortOf:Expr->List Expr->Option (Expr×Pos×Pos)
 | .Name x _,[.Call (.Name y _) [.Call (.Attribute o m apos) [] [] cpos] [] _]=>if x = "dict"/\y = "sorted"/\m = "items" then some (o,apos,cpos) else none
 | _,_=>none
noncomputable def trCall3 (S:Sig)(F:Str->MF)(r:Expr->ME)(c:Cs)(f:Expr)(args:List Expr)(cpos:Pos):ME:=
 match dsortOf f args with
 | some q=>if glob c "sorted" && glob c "dict" && S.no.contains "sorted" && S.no.contains "dict" && noSup q.1&&(q.2.1.endLine == q.2.2.line) then mDSort (r q.1) else mBad
 | none=>
 trCall2 S F r c f args cpos
noncomputable def compB (c:Cs)(scope:Scope)(xs:List Str):Bool:=
 (scope.names.all fun y=>decide (y.2≠.cell))&&decide (scope.kind=.function)&&(scope.names.all fun y=>decide (y.2≠.local)||decide (scope.names.lookup y.1=some .local)) &&
 (xs.all fun x=>decide (scope.names.lookup x=some .local))&&decide xs.Nodup&&(scope.names.all fun y=>decide (y.2≠.free)||decide (c.ks.lookup y.1=some .cell)||decide (c.ks.lookup y.1=some .free)) &&
 (scope.names.all fun y=>decide (y.2≠.local)||!(hid xs c.N).contains y.1)&&decide (hid xs c.N).Nodup&&(c.N.all fun y=>!xs.contains y||decide (scope.names.lookup (hidName y)=none))
noncomputable def compC (c:Cs)(scope:Scope)(xs:List Str):Cs:=
 ⟨hid xs c.N++xs,scope.names.map fun (n,k)=>if (k == NameKind.free&&c.ks.lookup n == some .cell) then (n,NameKind.cell) else (n,k)⟩
noncomputable def trIfs (r:Expr->MT):List Expr->MT
 | []=>mTrue
 | [t]=>r t
 | _=>mBadT
noncomputable def rngOf (S:Sig)(c:Cs):Expr->Option (List Expr)
 | .Call (.Name x _) args [] _=>if x = "range" then (if glob c x&&S.no.contains x&&args.all noStar then some args else none) else none
 | _=>none
noncomputable def trI (S:Sig)(r:Expr->ME)(c:Cs)(e:Expr):MI:=match rngOf S c e with
 | some [a]=>iRng1D (trA r [a])
 | some [a,b]=>iRng2D (trA r [a,b])
 | some _=>iBad
 | none=>iSeqD (r e)
noncomputable def enumOf (S:Sig)(c:Cs):Expr->Option Expr
 | .Call (.Name x _) [a] [] _=>if x = "enumerate" then (if glob c x&&S.no.contains x&&noStar a then some a else none) else none
 | _=>none
noncomputable def trIT0 (S:Sig)(r:Expr->ME)(c:Cs)(e:Expr):MI:=match enumOf S c e with
 | some a=>iEnumD (trA r [a])
 | none=>trI S r c e
noncomputable def zipOf (S:Sig)(c:Cs):Expr->Option (Expr×Expr)
 | .Call (.Name x _) [a,b] [] _=>if x = "zip" then (if glob c x&&S.no.contains x&&noStar a&&noStar b then some (a,b) else none) else none
 | _=>none
noncomputable def trIT (S:Sig)(r:Expr->ME)(c:Cs)(e:Expr):MI:=match zipOf S c e with
 | some (a,b)=>iZipD (trA r [a,b])
 | none=>trIT0 S r c e
noncomputable def tgNames:Expr->Option (List Str)
 | .Name x _=>some [x]
 | .Tuple es _ _=>es.mapM fun e=>match e with|.Name x _=>some x|_=>none
 | _=>none
noncomputable def tgBd:Expr->Nat->BD
 | .Tuple ..,n=>bdTup n
 | _,_=>bdOne
noncomputable def trIG (S:Sig)(r:Expr->ME)(c:Cs)(tg e:Expr):MI:=match tg with
 | .Tuple ..=>trIT S r c e
 | _=>trI S r c e
noncomputable def trComp (S:Sig)(rE:Cs->Expr->ME)(rT:Cs->Expr->MT)(c:Cs)(elt tg iter:Expr)(ifs:List Expr)(scope:Scope):ME:=match tgNames tg with
 | some xs=>if compB c scope xs&&noSet iter then mCompG (tgBd tg xs.length) (trIG S (rE c) c tg iter) (trIfs (rT (compC c scope xs)) ifs) (rE (compC c scope xs) elt) else mBad
 | none=>mBad
noncomputable def stepE (S:Sig)(F:Str->MF)(rE:Cs->Expr->ME)(rT:Cs->Expr->MT)(c:Cs):Expr->ME
 | .Name x _=>trN S c x
 | .Constant (.int i) _ _=>mC (.int i)
 | .Constant (.bool b) _ _=>mC (.bl b)
 | .Constant (.str s) _ _=>mC (.str s)
 | .Constant .none _ _=>mC .non
 | .BinOp a op b _=>trBin op (rE c a) (rE c b)
 | .UnaryOp .USub a _=>mNeg (rE c a)
 | .UnaryOp .Not a _=>mNotV (rE c a)
 | .Compare a [op] [b] _=>trCmp op (noSet b) (rE c a) (rE c b)
 | .Compare a [op,op'] [b,b'] _=>(match cmpI op,cmpI op' with
  | some p,some q=>mChain (intCmp p) (intCmp q) (rE c a) (rE c b) (rE c b')
  | _,_=>mBad)
 | .BoolOp op vs _=>trBo op (vs.map (rE c))
 | .IfExp t a b _=>mIfE (rT c t) (rE c a) (rE c b)
 | .Tuple es _ _=>if es.all noStar then mTup (trA (rE c) es) else mBad
 | .List es _=>if es.all noStar then mLst (trA (rE c) es) else mBad
 | .Dict [] [] _=>mDNewT
 | .Dict [some k] [v] _=>mDisp1 (rE c k) (rE c v)
 | .Subscript a (.Slice lo hi none _) _=>mSlice (rE c a) (trOp (rE c) lo) (trOp (rE c) hi)
 | .Subscript a (.Slice lo hi (some st) _) _=>mSliceS (rE c a) (trOp (rE c) lo) (trOp (rE c) hi) (trOp (rE c) (some st))
 | .Subscript a b _=>if noSlice b then mOp itD (rE c a) (rE c b) else mBad
 | .Call f args [] cpos=>trCall3 S F (rE c) c f args cpos
 | .ListComp elt [⟨tg,iter,ifs,0⟩] scope _=>trComp S rE rT c elt tg iter ifs scope
 | _=>mBad
noncomputable def stepT (rE:Cs->Expr->ME)(rT:Cs->Expr->MT)(c:Cs):Expr->MT
 | .BoolOp op vs _=>trBoT op (vs.map (rT c))
 | .UnaryOp .Not a _=>mNotT (rT c a)
 | .Compare a [op] [b] _=>mTest (trCmp op (noSet b) (rE c a) (rE c b))
 | .Compare a [op,op'] [b,b'] _=>(match cmpI op,cmpI op' with
  | some p,some q=>mTest (mChain (intCmp p) (intCmp q) (rE c a) (rE c b) (rE c b'))
  | _,_=>mBadT)
 | e=>if plainT e then mTru (rE c e) else mBadT
noncomputable def tr (S:Sig)(F:Str->MF):Nat->(Cs->Expr->ME)×(Cs->Expr->MT)
 | 0=>(fun _ _=>mBad,fun _ _=>mBadT)
 | n+1=>(stepE S F (tr S F n).1 (tr S F n).2,stepT (tr S F n).1 (tr S F n).2)
structure Okx (S:Sig)(F:Str->MF)(k:Nat)(c:Cs)(X:Cx):Prop where
 N:X.N=c.N
 nd:X.N.Nodup
 ks:X.env.scope.names=c.ks
 kind:X.env.scope.kind=.function
 calm:X.calm=true
 room:Room k X.A
 never:PassesOwn (model X.prog X.w) X.A X.env X.xe
 fn:∀ x n,S.fn.lookup x=some n->∃ (f:Addr)(fd:FuncData)(ps:List Str),FnOk X.prog X.w X.K X.mg X.base CX0 k f fd ps (spM X.K n (F x))/\X.mg x=some (.ref f)/\PySem.W.keepIn X.K (.ref f)=true/\Binds X.K fd ps []
 con:∀ x d,S.con.lookup x=some d->∃ v u,X.mg x=some u/\RelV v u/\∀ π n H,IsD X.K π n H v d
 tab:∀ x kvs,S.tab.lookup x=some kvs->TabOk X x kvs
 no:∀ x,S.no.contains x=true->X.mg x=none
section
variable {S:Sig}{F:Str->MF}{k:Nat}{c:Cs}{X:Cx}
theorem Okx.gl (O:Okx S F k c X){x:Str}(h:glob c x=true):Gl X x/\(x == ("__debug__":Str))=false:=by
 unfold glob at h
 rw [Bool.and_eq_true] at h
 refine ⟨?_,by simpa using h.2⟩
 show X.env.scope.names.lookup x=_
 rw [O.ks]
 exact of_decide_eq_true h.1
theorem Okx.vis (O:Okx S F k c X){x:Str}(h:seen c x=true):Vis X.env.scope x/\(x == ("__debug__":Str))=false/\(x == ("__classdict__":Str))=false:=by
 unfold seen at h
 rw [Bool.and_eq_true,Bool.and_eq_true,Bool.or_eq_true,Bool.or_eq_true] at h
 obtain ⟨⟨h1,h2⟩,h3⟩:=h
 refine ⟨?_,by simpa using h2,by simpa using h3⟩
 unfold Vis
 rw [O.ks]
 rcases h1 with (h1|h1)|h1
 ·exact .inl (of_decide_eq_true h1)
 ·exact .inr (.inl (of_decide_eq_true h1))
 ·exact .inr (.inr (of_decide_eq_true h1))
theorem trN_ok (O:Okx S F k c X)(x:Str)(pos:Pos):QE X (.Name x pos) (trN S c x):=by
 unfold trN
 split
 ·rename_i h
  obtain ⟨h1,h2,h3⟩:=O.vis h
  split
  ·rename_i i hi
   exact e_var i (by rw [O.N];exact idx_get hi) h1 h2 h3
  ·exact e_bad
 split
 ·rename_i h
  obtain ⟨h1,h2⟩:=O.gl h
  split
  ·rename_i d hd
   obtain ⟨v,u,m,r,i⟩:=O.con x d hd
   exact ⟨pm_const (pe_glob h1 m r h2) i⟩
  ·split
   ·rename_i hn
    split
    ·rename_i n ht
     obtain ⟨b1,b2⟩:=tyName_ok ht
     exact e_ty (O.no x hn) b1 h1 b2 h2
    ·exact e_bad
   ·exact e_bad
 ·exact e_bad
theorem trA_ok {r:Expr->ME}(hr:∀ e,QE X e (r e)):∀ (es:List Expr),es.all noStar=true->QA X es (trA r es) es.length
 | [],_=>a_nil
 | e::es,h=>by
  rw [List.all_cons,Bool.and_eq_true] at h
  exact a_cons (hr e) (trA_ok hr es h.2) h.1
theorem trBo_ok {r:Expr->ME}(hr:∀ e,QE X e (r e))(op:BoolOp)(pos:Pos):∀ (vs:List Expr),QE X (.BoolOp op vs pos) (trBo op (vs.map r))
 | []=>e_bad
 | [e]=>e_one (hr e)
 | e::e2::es=>by
  have ih:=trBo_ok hr op pos (e2::es)
  cases op with
  | And=>exact e_and (hr e) ih
  | Or=>exact e_or (hr e) ih
theorem trBoT_ok {r:Expr->MT}(hr:∀ e,QT X e (r e))(op:BoolOp)(pos:Pos):∀ (vs:List Expr),QW X (.BoolOp op vs pos) (trBoT op (vs.map r))
 | []=>w_bad
 | [e]=>by
  cases op with
  | And=>exact w_and1 (hr e)
  | Or=>exact w_or1 (hr e)
 | e::e2::es=>by
  have ih:=trBoT_ok hr op pos (e2::es)
  cases op with
  | And=>exact w_and (hr e) ih
  | Or=>exact w_or (hr e) ih
theorem trBin_ok {a b:Expr}{ma mb:ME}(ha:QE X a ma)(hb:QE X b mb)(op:Operator)(pos:Pos):QE X (.BinOp a op b pos) (trBin op ma mb):=by
 cases op with
 | Add=>exact e_add ha hb
 | Sub=>exact e_sub ha hb
 | Mult=>exact e_mul ha hb
 | FloorDiv=>exact e_fdiv ha hb
 | Mod=>exact e_mod ha hb
 | Pow=>exact e_pow ha hb
 | _=>exact e_bad
theorem trCmp_ok (O:Okx S F k c X){a b:Expr}{ma mb:ME}(ha:QE X a ma)(hb:QE X b mb)(op:CmpOp)(pos:Pos):QE X (.Compare a [op] [b] pos) (trCmp op (noSet b) ma mb):=by
 cases op with
 | Eq=>exact e_eq O.room ha hb
 | NotEq=>exact e_ne O.room ha hb
 | Lt=>exact e_lt ha hb
 | LtE=>exact e_le ha hb
 | Gt=>exact e_gt ha hb
 | GtE=>exact e_ge ha hb
 | In=>
  simp only [trCmp]
  split
  ·rename_i h;exact e_in O.room ha hb h
  ·exact e_bad
 | NotIn=>
  simp only [trCmp]
  split
  ·rename_i h;exact e_notin O.room ha hb h
  ·exact e_bad
 | Is=>exact e_isM ha hb
 | IsNot=>exact e_isnotM ha hb
theorem t_badM {e:Expr}:QT X e (mTest mBad):=⟨fun pins s σ H Q I h=>by
 obtain ⟨π,ρ,μ,d,μ',R,E,hm,k⟩:=h
 cases hm⟩
theorem trCmpT_ok (O:Okx S F k c X){a b:Expr}{ma mb:ME}(ha:QE X a ma)(hb:QE X b mb)(op:CmpOp)(pos:Pos):QT X (.Compare a [op] [b] pos) (mTest (trCmp op (noSet b) ma mb)):=by
 cases op with
 | Eq=>exact t_eq O.room ha hb
 | NotEq=>exact t_ne O.room ha hb
 | Lt=>exact t_lt ha hb
 | LtE=>exact t_le ha hb
 | Gt=>exact t_gt ha hb
 | GtE=>exact t_ge ha hb
 | In=>
  simp only [trCmp]
  split
  ·rename_i h;exact t_in O.room ha hb h
  ·exact t_badM
 | NotIn=>
  simp only [trCmp]
  split
  ·rename_i h;exact t_notin O.room ha hb h
  ·exact t_badM
 | Is=>exact t_isM ha hb
 | IsNot=>exact t_isnotM ha hb
theorem trOp_ok {r:Expr->ME}(hr:∀ e,QE X e (r e)):∀ o:Option Expr,QO X o (trOp r o)
 | none=>o_none
 | some e=>o_some (hr e)
theorem trCall_ok (O:Okx S F k c X){r:Expr->ME}(hr:∀ e,QE X e (r e))(f:Expr)(args:List Expr)(cpos:Pos):QE X (.Call f args [] cpos) (trCall S F r c f args cpos):=by
 unfold trCall
 split
 ·rename_i x p
  split
  ·rename_i hg
   rw [Bool.and_eq_true] at hg
   obtain ⟨g1,g2⟩:=O.gl hg.1
   have ha:=trA_ok hr args hg.2
   split
   ·rename_i n hn
    split
    ·rename_i hl
     obtain ⟨fa,fd,ps,FO,hm,hk,hb⟩:=O.fn x n hn
     subst hl
     cases args with
     | nil=>exact e_call0 FO O.room hm hk hb g1 g2
     | cons e es=>exact e_call FO O.room hm hk hb ha g1 g2
    ·exact e_bad
   ·split
    ·rename_i hno
     rw [Bool.and_eq_true] at hno
     split
     ·rename_i g hb
      obtain ⟨v,rr,b1,b2,b3,b4,b5⟩:=bltM_ok (X:=X) O.calm O.room.units hb
      cases args with
      | nil=>exact absurd hno.2 (by simp)
      | cons e es=>
       rcases b2 with ⟨id,rfl⟩|⟨T,rfl⟩
       ·exact e_callB b3 b4 (O.no x hno.1) b1 ha g1 b5 g2
       ·exact e_callT b3 b4 (O.no x hno.1) b1 ha g1 b5 g2
     ·exact e_bad
    ·exact e_bad
  ·exact e_bad
 ·rename_i o m apos
  split
  ·rename_i hg
   rw [Bool.and_eq_true,Bool.and_eq_true] at hg
   obtain ⟨⟨h1,h2⟩,h3⟩:=hg
   have ha:=trA_ok hr args h3
   split
   ·rename_i g hm
    unfold methM at hm
    split at hm
    ·rename_i hl
     cases args with
     | nil=>cases hl
     | cons e es=>
      have hn:(e::es).length<30:=by rw [hl];decide
      split at hm
      ·rename_i e1;subst e1;cases hm
       exact e_meth PySem.F.slot_list_append PySem.F.type_list_append mt_append append_ok (hr o) ha h1 h2 hn
      split at hm
      ·rename_i e1;subst e1;cases hm
       exact e_meth PySem.F.slot_list_extend PySem.F.type_list_extend mt_extend extend_ok (hr o) ha h1 h2 hn
      split at hm
      ·rename_i e1;subst e1;cases hm
       exact e_meth PySem.F.slot_list_index PySem.F.type_list_index (mt_index (by have:=O.room.units;omega)) index_ok (hr o) ha h1 h2 hn
      ·cases hm
    split at hm
    ·rename_i hl
     cases args with
     | cons e es=>cases hl
     | nil=>
      split at hm
      ·rename_i e1;subst e1;cases hm
       exact e_meth0 PySem.F.slot_list_clear PySem.F.type_list_clear mt_clear clear_ok (hr o) h1 h2
      split at hm
      ·rename_i e1;subst e1;cases hm
       exact e_meth0 PySem.F.slot_list_pop PySem.F.type_list_pop mt_pop pop_ok (hr o) h1 h2
      split at hm
      ·rename_i e1;subst e1;cases hm
       exact e_meth0 PySem.F.slot_list_reverse PySem.F.type_list_reverse mt_reverse reverse_ok (hr o) h1 h2
      ·cases hm
    ·cases hm
   ·skip
    ·exact e_bad
  ·exact e_bad
 ·exact e_bad
theorem trCall2_ok (O:Okx S F k c X){r:Expr->ME}(hr:∀ e,QE X e (r e))(f:Expr)(args:List Expr)(cpos:Pos):QE X (.Call f args [] cpos) (trCall2 S F r c f args cpos):=by
 unfold trCall2
 exact trCall_ok O hr f args cpos
theorem compB_ok (O:Okx S F k c X){scope:Scope}{xs:List Str}(h:compB c scope xs=true):CompSt X.env.scope X.N scope xs/\xs.Nodup:=by
 unfold compB at h
 rw [Bool.and_eq_true,Bool.and_eq_true] at h
 obtain ⟨⟨h,h8⟩,h9⟩:=h
 have h8:=of_decide_eq_true h8
 have h9':∀ y∈c.N,xs.contains y=true->scope.names.lookup (hidName y)=none:=fun y hy hc=>by
  have:=List.all_eq_true.mp h9 y hy
  rw [hc] at this
  simpa using this
 simp only [Bool.and_eq_true,List.all_eq_true,decide_eq_true_eq,Bool.or_eq_true,Bool.not_eq_true',List.contains_eq_mem,decide_eq_false_iff_not] at h
 obtain ⟨⟨⟨⟨⟨⟨h1,h2⟩,h3⟩,h4⟩,h7⟩,h5⟩,h6⟩:=h
 refine ⟨⟨h1,h2,fun y hy hl=>(h3 y hy).resolve_left (fun z=>z hl),h4,fun y hy hf=>?_,fun y hy hl=>?_,O.nd,by rw [O.N];exact h8,by rw [O.N];exact h9'⟩,h7⟩
 ·rw [O.ks]
  rcases h5 y hy with (z|z)|z
  ·exact absurd hf z
  ·exact .inl z
  ·exact .inr z
 ·rw [O.N]
  have:=(h6 y hy).resolve_left (fun z=>z hl)
  exact this
theorem nodup_ext {N xs:List Str}(h:N.Nodup)(h2:xs.Nodup)(h3:∀ x∈xs,x∉N):(N++xs).Nodup:=by
 rw [List.nodup_append]
 exact ⟨h,h2,fun a ha b hb e=>by subst e;exact h3 _ hb ha⟩
theorem Okx.comp (O:Okx S F k c X){scope:Scope}{xs:List Str}(h:compB c scope xs=true){cl:List (Str×Addr)}{C:Addr}{s₀:Shared}{H₀:Hp}{fp:List Addr}:Okx S F k (compC c scope xs) (compCx X scope cl C (hid xs X.N++xs) s₀ H₀ fp):=by
 obtain ⟨St,hnd⟩:=compB_ok O h
 refine ⟨show hid xs X.N++xs=hid xs c.N++xs by rw [O.N],?_,?_,?_,O.calm,O.room,PassesOwn.never,O.fn,O.con,fun y kvs q=>⟨(O.tab y kvs q).ex⟩,O.no⟩
 ·show (hid xs X.N++xs).Nodup
  exact nodup_ext St.hnd hnd fun x hx=>St.own (x,.local) (PySem.mem_of_lookup (St.here x hx)) rfl
 ·show (relabel scope X.env).names=(compC c scope xs).ks
  unfold relabel compC
  dsimp only
  refine List.map_congr_left fun y _=>?_
  obtain ⟨n,kk⟩:=y
  dsimp only
  have:(X.env.scope.kind == ScopeKind.function)=true:=by rw [O.kind];rfl
  rw [this,Bool.and_true]
  show (if (kk == NameKind.free&&X.env.scope.names.lookup n == some NameKind.cell)=true then _ else _)=_
  rw [O.ks]
 ·show (relabel scope X.env).kind=.function
  exact St.kind
theorem trIfs_ok {r:Expr->MT}(hr:∀ e,QT X e (r e)):∀ es:List Expr,QI X es (trIfs r es)
 | []=>i_nil
 | [t]=>i_one (hr t)
 | a::b::es=>⟨fun pins s σ H Q I h=>by
   obtain ⟨π,ρ,μ,d,μ',R,E,hm,k⟩:=h
   cases hm⟩
theorem rngOf_ok (O:Okx S F k c X){e:Expr}{args:List Expr}(h:rngOf S c e=some args):∃ p pos,e=.Call (.Name "range" p) args [] pos/\Gl X "range"/\X.mg "range" = none/\args.all noStar=true:=by
 unfold rngOf at h
 split at h
 ·split at h
  ·rename_i e1
   subst e1
   split at h
   ·rename_i hg
    cases h
    rw [Bool.and_eq_true,Bool.and_eq_true] at hg
    exact ⟨_,_,rfl,(O.gl hg.1.1).1,O.no _ hg.1.2,hg.2⟩
   ·cases h
  ·cases h
 ·cases h
theorem trI_ok (O:Okx S F k c X){r:Expr->ME}(hr:∀ e,QE X e (r e))(e:Expr):QJ X e (trI S r c e):=by
 unfold trI
 split
 ·rename_i a h
  obtain ⟨p,pos,rfl,h1,h2,h3⟩:=rngOf_ok O h
  exact j_range1 h1 h2 (trA_ok hr [a] h3)
 ·rename_i a b h
  obtain ⟨p,pos,rfl,h1,h2,h3⟩:=rngOf_ok O h
  exact j_range2 h1 h2 (trA_ok hr [a,b] h3)
 ·exact j_bad
 ·exact j_seq (hr e)
theorem enumOf_ok (O:Okx S F k c X){e a:Expr}(h:enumOf S c e=some a):∃ p pos,e=.Call (.Name "enumerate" p) [a] [] pos/\Gl X "enumerate"/\X.mg "enumerate" = none/\noStar a=true:=by
 unfold enumOf at h
 split at h
 ·split at h
  ·rename_i e1
   subst e1
   split at h
   ·rename_i hg
    cases h
    rw [Bool.and_eq_true,Bool.and_eq_true] at hg
    exact ⟨_,_,rfl,(O.gl hg.1.1).1,O.no _ hg.1.2,hg.2⟩
   ·cases h
  ·cases h
 ·cases h
theorem trIT0_ok (O:Okx S F k c X){r:Expr->ME}(hr:∀ e,QE X e (r e))(e:Expr):QJT X e (trIT0 S r c e):=by
 unfold trIT0
 split
 ·rename_i a h
  obtain ⟨p,pos,rfl,h1,h2,h3⟩:=enumOf_ok O h
  exact j_enum h1 h2 (trA_ok hr [a] (by rw [List.all_cons,h3];rfl))
 ·exact (trI_ok O hr e).t
theorem zipOf_ok (O:Okx S F k c X){e a b:Expr}(h:zipOf S c e=some (a,b)):∃ p pos,e=.Call (.Name "zip" p) [a,b] [] pos/\Gl X "zip"/\X.mg "zip" = none/\noStar a=true/\noStar b=true:=by
 unfold zipOf at h
 split at h
 ·split at h
  ·rename_i e1
   subst e1
   split at h
   ·rename_i hg
    cases h
    rw [Bool.and_eq_true,Bool.and_eq_true,Bool.and_eq_true] at hg
    exact ⟨_,_,rfl,(O.gl hg.1.1.1).1,O.no _ hg.1.1.2,hg.1.2,hg.2⟩
   ·cases h
  ·cases h
 ·cases h
theorem trIT_ok (O:Okx S F k c X){r:Expr->ME}(hr:∀ e,QE X e (r e))(e:Expr):QJT X e (trIT S r c e):=by
 unfold trIT
 split
 ·rename_i a b h
  obtain ⟨p,pos,rfl,h1,h2,h3,h4⟩:=zipOf_ok O h
  exact j_zip h1 h2 (trA_ok hr [a,b] (by rw [List.all_cons,List.all_cons,h3,h4];rfl))
 ·exact trIT0_ok O hr e
theorem trIG_ok (O:Okx S F k c X){r:Expr->ME}(hr:∀ e,QE X e (r e))(tg e:Expr):PI X tg e (tMI X.K (trIG S r c tg e)):=by
 unfold trIG
 split
 ·exact (trIT_ok O hr e).h _ _ _
 ·exact (trI_ok O hr e).h _
theorem folded_of {iter:Expr}{env:Env}(h:noSet iter=true):∀ x,foldedSetIterable iter env x=pure x:=by
 intro z
 cases iter<;>first|rfl|cases h
end
theorem names_gs {X:Cx}(hN:X.N.Nodup):∀ (es:List Expr)(xs:List Str)(n:Nat),(es.mapM fun e=>match e with|.Name x _=>some x|_=>none)=some xs->(∀ j x,xs[j]? = some x->X.N[n+j]? = some x/\X.env.scope.names.lookup x=some .local)->QGs X es (List.range' n xs.length)
 | [],xs,n,h,hx=>by
  cases h
  exact gs_nil
 | e::es,xs,n,h,hx=>by
  rw [List.mapM_cons] at h
  obtain ⟨x,h1,h⟩:=Zb.mp h
  obtain ⟨ys,h2,h⟩:=Zb.mp h
  cases h
  cases e with
  | Name y p=>
   cases h1
   rw [List.length_cons,List.range'_succ]
   have h0:=hx 0 x rfl
   refine gs_cons n hN (names_gs hN es ys (n+1) h2 fun j z hz=>?_) (by simpa using h0.1) (.inl h0.2) (.inr h0.2)
   have:=hx (j+1) z (by simpa using hz)
   rw [show n+1+j=n+(j+1) by omega]
   exact this
  | _=>cases h1
theorem tg_ok {S:Sig}{F:Str->MF}{k:Nat}{c:Cs}{X:Cx}(O:Okx S F k c X){scope:Scope}{tg:Expr}{xs:List Str}(hx:tgNames tg=some xs)(h:compB c scope xs=true)(cl:List (Str×Addr))(C:Addr)(s₀:Shared)(H₀:Hp)(fp:List Addr) :
  PG (compCx X scope cl C (hid xs X.N++xs) s₀ H₀ fp) tg (tMG X.K (gB X.N.length (tgBd tg xs.length)))/\∀ d μ z,tgBd tg xs.length d μ=some z->z.length=xs.length:=by
 obtain ⟨St,hnd⟩:=compB_ok O h
 have hN:(hid xs X.N++xs).Nodup:=nodup_ext St.hnd hnd fun x hx=>St.own (x,.local) (PySem.mem_of_lookup (St.here x hx)) rfl
 have hloc:∀ x∈xs,(relabel scope X.env).names.lookup x=some .local:=fun x hx=>lookup_relabel_local (St.here x hx)
 unfold tgNames at hx
 split at hx
 ·rename_i x p
  cases hx
  refine ⟨pgb_name (X:=compCx X scope cl C (hid [x] X.N++[x]) s₀ H₀ fp) (by show (hid [x] X.N++[x]).length=_;rw [List.length_append,hid_len];rfl) (pmg_name (X:=compCx X scope cl C (hid [x] X.N++[x]) s₀ H₀ fp) hN (by show (hid [x] X.N++[x])[X.N.length]? = _;rw [<- hid_len [x] X.N];simp) (.inl (hloc x (by simp))) (.inr (hloc x (by simp)))),fun d μ z hz=>?_⟩
  cases hz
  rfl
 ·rename_i es kk pt
  refine ⟨pgb_tup (X:=compCx X scope cl C (hid xs X.N++xs) s₀ H₀ fp) (by show (hid xs X.N++xs).length=_;rw [List.length_append,hid_len]) (g_tup (X:=compCx X scope cl C (hid xs X.N++xs) s₀ H₀ fp) (names_gs (X:=compCx X scope cl C (hid xs X.N++xs) s₀ H₀ fp) hN es xs X.N.length hx fun j x hj=>⟨?_,hloc x (List.mem_of_getElem? hj)⟩) O.calm).h,fun d μ z hz=>?_⟩
  ·show (hid xs X.N++xs)[X.N.length+j]? = some x
   rw [List.getElem?_append_right (by rw [hid_len];omega),hid_len,show X.N.length+j - X.N.length=j by omega]
   exact hj
  ·obtain ⟨ys,h1,h2⟩:=Zb.mp hz
   split at h2
   ·rename_i hl
    cases h2
    rw [Zl];exact hl
   ·cases h2
 ·cases hx
theorem trCall3_ok (O:Okx S F k c X){r:Expr->ME}(hr:∀ e,QE X e (r e))(f:Expr)(args:List Expr)(cpos:Pos):QE X (.Call f args [] cpos) (trCall3 S F r c f args cpos):=by
 unfold trCall3
 split
 ·rename_i q h
  split
  ·rename_i hg
   rw [Bool.and_eq_true,Bool.and_eq_true,Bool.and_eq_true,Bool.and_eq_true,Bool.and_eq_true] at hg
   obtain ⟨⟨⟨⟨⟨g1,g2⟩,n1⟩,n2⟩,st⟩,ln⟩:=hg
   unfold dsortOf at h
   split at h
   ·split at h
    ·rename_i hxy
     obtain ⟨rfl,rfl,rfl⟩:=hxy
     cases h
     exact e_dsort O.calm O.room.units (O.no _ n1) (O.no _ n2) (O.gl g1).1 (O.gl g2).1 (hr _) st ln
    ·cases h
   ·cases h
  ·exact e_bad
 exact trCall2_ok O hr _ _ _
theorem trComp_ok {S:Sig}{F:Str->MF}{k:Nat}{rE:Cs->Expr->ME}{rT:Cs->Expr->MT}(hE:∀ c X,Okx S F k c X->∀ e,QE X e (rE c e))(hT:∀ c X,Okx S F k c X->∀ e,QT X e (rT c e))(c:Cs)(X:Cx)(O:Okx S F k c X)
  (elt tg iter:Expr)(ifs:List Expr)(scope:Scope)(pos:Pos):QE X (.ListComp elt [⟨tg,iter,ifs,0⟩] scope pos) (trComp S rE rT c elt tg iter ifs scope):=by
 unfold trComp
 split
 ·rename_i xs hx
  split
  ·rename_i h
   rw [Bool.and_eq_true] at h
   refine ⟨fun pins s σ H Q I q=>?_⟩
   exact pm_compI ((compB_ok O h.1).1.ok I.ok) O.calm (trIG_ok O (hE c X O) tg iter) (fun d μ z=>(tg_ok O hx h.1 [] 0 s H []).2 d μ z) (fun C s₀ H₀ fp=>(tg_ok O hx h.1 _ C s₀ H₀ fp).1) (fun C s₀ H₀ fp=>(trIfs_ok (hT _ _ (O.comp h.1)) _).h) (fun C s₀ H₀ fp=>(hE _ _ (O.comp h.1) _).h) (folded_of h.2) pins s σ H Q I q
  ·exact e_bad
 ·exact e_bad
theorem step_ok {S:Sig}{F:Str->MF}{k:Nat}{rE:Cs->Expr->ME}{rT:Cs->Expr->MT}(hE:∀ c X,Okx S F k c X->∀ e,QE X e (rE c e))(hT:∀ c X,Okx S F k c X->∀ e,QT X e (rT c e))(c:Cs)(X:Cx)(O:Okx S F k c X) :
  (∀ e,QE X e (stepE S F rE rT c e))/\∀ e,QT X e (stepT rE rT c e):=by
 have hr:=hE c X O
 have ht:=hT c X O
 constructor
 ·intro e
  unfold stepE
  split
  ·exact trN_ok O _ _
  ·exact e_int
  ·exact e_bl
  ·exact e_str
  ·exact e_non
  ·exact trBin_ok (hr _) (hr _) _ _
  ·exact e_neg (hr _)
  ·exact e_not (hr _)
  ·exact trCmp_ok O (hr _) (hr _) _ _
  ·split
   ·rename_i h1 h2
    exact e_chain h1 h2 (hr _) (hr _) (hr _)
   ·exact e_bad
  ·exact trBo_ok hr _ _ _
  ·exact e_if (ht _) (hr _) (hr _)
  ·split
   ·rename_i h;exact e_tup (trA_ok hr _ h)
   ·exact e_bad
  ·split
   ·rename_i h;exact e_lst (trA_ok hr _ h)
   ·exact e_bad
  ·exact e_dnewT
  ·exact e_disp1 O.room (hr _) (hr _)
  ·exact e_slice (hr _) (trOp_ok hr _) (trOp_ok hr _)
  ·exact e_sliceS (hr _) (trOp_ok hr _) (trOp_ok hr _) (trOp_ok hr _)
  ·split
   ·rename_i h
    ·exact e_item O.room (hr _) (hr _) h
   ·exact e_bad
  ·exact trCall3_ok O hr _ _ _
  ·exact trComp_ok hE hT c X O _ _ _ _ _ _
  ·exact e_bad
 ·intro e
  unfold stepT
  split
  ·exact t_bool (trBoT_ok ht _ _ _)
  ·exact t_not (ht _)
  ·exact trCmpT_ok O (hr _) (hr _) _ _
  ·split
   ·rename_i h1 h2
    exact t_chain h1 h2 (hr _) (hr _) (hr _)
   ·exact t_bad
  ·split
   ·rename_i h;exact t_tru (hr _) h
   ·exact t_bad
theorem tr_ok {S:Sig}{F:Str->MF}{k:Nat}:∀ (n:Nat),(∀ c X,Okx S F k c X->∀ e,QE X e ((tr S F n).1 c e))/\∀ c X,Okx S F k c X->∀ e,QT X e ((tr S F n).2 c e)
 | 0=>⟨fun c X O e=>e_bad,fun c X O e=>t_bad⟩
 | n+1=>by
  have ih:=tr_ok (S:=S) (F:=F) (k:=k) n
  exact ⟨fun c X O e=>(step_ok ih.1 ih.2 c X O).1 e,fun c X O e=>(step_ok ih.1 ih.2 c X O).2 e⟩
end L3
namespace L3
open PySem L2
noncomputable def gBad:MG:=fun _ _ _=>none
noncomputable def tgtIx (c:Cs):List Expr->Option (List Nat)
 | []=>some []
 | .Name x _::r=>if owned c x then (idx x c.N).bind fun i=>(tgtIx c r).map (i::·) else none
 | _=>none
noncomputable def trG (c:Cs):Expr->MG
 | .Name x _=>if owned c x then (match idx x c.N with|some i=>gSet i|none=>gBad) else gBad
 | .Tuple es _ _=>match tgtIx c es with|some is=>gTupD is|none=>gBad
 | _=>gBad
noncomputable def trB (r:Stmt->MS):List Stmt->MS
 | []=>mNext
 | [s]=>r s
 | s::t=>mSeq (r s) (trB r t)
noncomputable def trCmpSet (S:Sig)(E:Cs->Expr->ME)(T:Cs->Expr->MT)(c:Cs)(i:Nat):Expr->MS
 | .ListComp elt [⟨tg,iter,ifs,0⟩] scope _=>mSet i (trComp S E T c elt tg iter ifs scope)
 | _=>mBadS
noncomputable def trAsg (S:Sig)(E:Cs->Expr->ME)(T:Cs->Expr->MT)(c:Cs)(tg e:Expr):MS:=match tg with
 | .Name y _=>if owned c y then (match idx y c.N with
   | some i=>if noComp e then mSet i (E c e) else trCmpSet S E T c i e
   | none=>mBadS) else mBadS
 | .Tuple es _ _=>if noTup e then (match tgtIx c es with|some is=>mAsg (E c e) (gTupD is)|none=>mBadS)
   else mBadS
 | .Subscript o i _=>if noComp e&&noSlice i then mPut (E c o) (E c i) (E c e) else mBadS
 | _=>mBadS
noncomputable def wFuel:Nat:=1000000000
noncomputable def stepS (S:Sig)(E:Cs->Expr->ME)(T:Cs->Expr->MT)(c:Cs)(r:Stmt->MS):Stmt->MS
 | .Return (some e) _=>mRet (E c e)
 | .Return none _=>mRet (mC .non)
 | .If t a b _=>mIfS (T c t) (trB r a) (trB r b)
 | .Assign [tg] e _=>trAsg S E T c tg e
 | .Expr e _=>if noComp e then mDrop (E c e) else mBadS
 | .For tg iter body [] _=>if noSet iter then mForI (trIG S (E c) c tg iter) (trG c tg) (trB r body) else mBadS
 | .While t body [] _=>mWhile wFuel (T c t) (trB r body)
 | .Pass _=>mNext
 | _=>mBadS
noncomputable def trS (S:Sig)(F:Str->MF)(m:Nat)(c:Cs):Nat->Stmt->MS
 | 0=>fun _=>mBadS
 | n+1=>stepS S (tr S F m).1 (tr S F m).2 c (trS S F m c n)
section
variable {S:Sig}{F:Str->MF}{k:Nat}{c:Cs}{X:Cx}
theorem Okx.own (O:Okx S F k c X){x:Str}(h:owned c x=true):L2.Loc X.env.scope x:=by
 unfold owned at h
 rw [Bool.or_eq_true] at h
 unfold L2.Loc
 rw [O.ks]
 exact h.imp of_decide_eq_true of_decide_eq_true
theorem tgtIx_ok (O:Okx S F k c X)(hf:∀ x,X.fn x=true):∀ (es:List Expr)(is:List Nat),tgtIx c es=some is->QGs X es is
 | [],is,h=>by cases h;exact gs_nil
 | e::es,is,h=>by
  cases e with
  | Name x p=>
   unfold tgtIx at h
   split at h
   ·rename_i ho
    obtain ⟨i,h1,h⟩:=Zb.mp h
    obtain ⟨js,h2,h⟩:=Zm.mp h
    subst h
    exact gs_cons i O.nd (tgtIx_ok O hf es js h2) (by rw [O.N];exact idx_get h1) (O.own ho) (.inl (hf x))
   ·cases h
  | _=>cases h
theorem trG_ok (O:Okx S F k c X)(hf:∀ x,X.fn x=true)(e:Expr):QG X e (trG c e):=by
 unfold trG
 split
 ·split
  ·rename_i ho
   split
   ·rename_i i hi
    exact g_name i O.nd (by rw [O.N];exact idx_get hi) (O.own ho) (.inl (hf _))
   ·exact g_bad fun _ _ _=>rfl
  ·exact g_bad fun _ _ _=>rfl
 ·split
  ·rename_i is hi
   exact g_tup (tgtIx_ok O hf _ is hi) O.calm
  ·exact g_bad fun _ _ _=>rfl
 ·exact g_bad fun _ _ _=>rfl
theorem trB_ok {r:Stmt->MS}(hr:∀ s,QS X s (r s)):∀ ss:List Stmt,QB X ss (trB r ss)
 | []=>b_nil
 | [s]=>b_one (hr s)
 | s::t::ts=>b_cons (hr s) (trB_ok hr (t::ts))
theorem swaps_comp {elt tg iter:Expr}{ifs:List Expr}{scope:Scope}{pos py:Pos}{y:Str}{n:Nat}{env:Env} :
  ∃ b:Bool,swapsWith (.ListComp elt [⟨tg,iter,ifs,0⟩] scope pos) (some (.Name y py)) n env=pure b/\(b=true->env.kindOf y=some .local):=by
 refine ⟨env.blockKind == .function&&env.kindOf y == some .local&&py.line == pos.line&&!(scope.names.any fun (n,k)=>n == y&&(k == .local||k == .cell)),rfl,fun h=>?_⟩
 simp only [Bool.and_eq_true,beq_iff_eq] at h
 exact h.1.1.2
theorem trCmpSet_ok (O:Okx S F k c X)(hf:∀ x,X.fn x=true){E:Cs->Expr->ME}{T:Cs->Expr->MT}(hE:∀ c X,Okx S F k c X->∀ e,QE X e (E c e))(hT:∀ c X,Okx S F k c X->∀ e,QT X e (T c e))
  {i:Nat}{y:Str}{py spos:Pos}(hi:X.N[i]? = some y)(hy:owned c y=true)(e:Expr):QS X (.Assign [.Name y py] e spos) (trCmpSet S E T c i e):=by
 unfold trCmpSet
 split
 ·rename_i elt tg iter ifs scope pos
  obtain ⟨b,hb1,hb2⟩:=swaps_comp (elt:=elt) (tg:=tg) (iter:=iter) (ifs:=ifs) (scope:=scope) (pos:=pos) (py:=py) (y:=y) (n:=spos.line) (env:=X.env)
  cases b with
  | false=>exact ⟨pms_set O.nd hi (O.own hy) (trComp_ok hE hT c X O elt tg iter ifs scope pos).h hb1 (.inl (hf y))⟩
  | true=>
   unfold trComp
   split
   ·rename_i xs hx
    split
    ·rename_i h
     rw [Bool.and_eq_true] at h
     refine ⟨fun pins s σ H D I q=>?_⟩
     exact pms_compSet ((compB_ok O h.1).1.ok I.ok) O.nd O.calm (trIG_ok O (hE c X O) tg iter) (fun d μ z=>(tg_ok O hx h.1 [] 0 s H []).2 d μ z) (fun C s₀ H₀ fp=>(tg_ok O hx h.1 _ C s₀ H₀ fp).1) (fun C s₀ H₀ fp=>(trIfs_ok (hT _ _ (O.comp h.1)) _).h) (fun C s₀ H₀ fp=>(hE _ _ (O.comp h.1) _).h) (folded_of h.2) hi (hb2 rfl) hb1 pins s σ H D I q
    ·exact s_badSet
   ·exact s_badSet
 ·exact s_bad
theorem trAsg_ok (O:Okx S F k c X)(hf:∀ x,X.fn x=true){E:Cs->Expr->ME}{T:Cs->Expr->MT}(hE:∀ c X,Okx S F k c X->∀ e,QE X e (E c e))(hT:∀ c X,Okx S F k c X->∀ e,QT X e (T c e))(tg e:Expr)(pos:Pos) :
  QS X (.Assign [tg] e pos) (trAsg S E T c tg e):=by
 unfold trAsg
 split
 ·split
  ·rename_i ho
   split
   ·rename_i i hi
    have hi':=idx_get hi
    rw [<- O.N] at hi'
    split
    ·rename_i hn
     exact s_set i O.nd (hE c X O e) hn hi' (O.own ho) (.inl (hf _))
    ·exact trCmpSet_ok O hf hE hT hi' ho e
   ·exact s_bad
  ·exact s_bad
 ·split
  ·rename_i hn
   split
   ·rename_i is hi
    exact s_unp (hE c X O e) (g_tup (tgtIx_ok O hf _ is hi) O.calm) hn
   ·exact s_bad
  ·exact s_bad
 ·split
  ·rename_i h
   rw [Bool.and_eq_true] at h
   exact s_put O.room (hE c X O _) (hE c X O _) (hE c X O _) h.1
  ·exact s_bad
 ·exact s_bad
theorem stepS_ok (O:Okx S F k c X)(hf:∀ x,X.fn x=true){E:Cs->Expr->ME}{T:Cs->Expr->MT}(hE:∀ c X,Okx S F k c X->∀ e,QE X e (E c e))(hT:∀ c X,Okx S F k c X->∀ e,QT X e (T c e)){r:Stmt->MS}(hr:∀ s,QS X s (r s))(st:Stmt) :
  QS X st (stepS S E T c r st):=by
 unfold stepS
 split
 ·exact s_ret (hE c X O _)
 ·exact s_retN
 ·exact s_if (hT c X O _) (trB_ok hr _) (trB_ok hr _)
 ·exact trAsg_ok O hf hE hT _ _ _
 ·split
  ·rename_i h;exact s_expr (hE c X O _) h
  ·exact s_bad
 ·split
  ·rename_i h;exact s_forG (trIG_ok O (hE c X O) _ _) (trG_ok O hf _) (trB_ok hr _) O.never O.calm h
  ·exact s_bad
 ·exact s_while _ (hT c X O _) (trB_ok hr _) O.never
 ·exact s_pass
 ·exact s_bad
theorem trS_ok (O:Okx S F k c X)(hf:∀ x,X.fn x=true)(m:Nat):∀ (n:Nat)(st:Stmt),QS X st (trS S F m c n st)
 | 0,_=>s_bad
 | n+1,st=>stepS_ok O hf (tr_ok m).1 (tr_ok m).2 (trS_ok O hf m n) st
end
noncomputable def dfPs (st:Stmt):List Str:=(defArgs st).args.map (·.arg)
noncomputable def dfN (st:Stmt):List Str:=dfPs st++(defScope st).names.filterMap fun y=>if (y.2 == NameKind.local||y.2 == NameKind.cell)&&!(dfPs st).contains y.1 then some y.1 else none
noncomputable def scopeB (st:Stmt):Bool:=
 decide ((defScope st).kind=.function)&&!(defScope st).isCoroutine&&!(defScope st).isGenerator&&decide (dfN st).Nodup &&
 ((dfPs st).all fun x=>decide ((defScope st).names.lookup x=some .local)||decide ((defScope st).names.lookup x=some .cell))&&((defScope st).names.all fun y=>decide (y.2≠.free))
theorem scopeB_ok {st:Stmt}(h:scopeB st=true):FnScope (dfN st) (dfPs st) (defScope st):=by
 unfold scopeB at h
 simp only [Bool.and_eq_true,decide_eq_true_eq,Bool.not_eq_true',List.all_eq_true,Bool.or_eq_true] at h
 obtain ⟨⟨⟨⟨⟨h1,h2⟩,h3⟩,h4⟩,h5⟩,h6⟩:=h
 exact ⟨h1,h2,h3,h4,by unfold dfN;simp,h5,h6⟩
noncomputable def eFuel:Nat:=40
noncomputable def sFuel:Nat:=40
noncomputable def bodyM (S:Sig)(F:Str->MF)(st:Stmt):MF:=runM (dfN st).length (trB (trS S F eFuel ⟨dfN st,(defScope st).names⟩ sFuel) (defBody st))
noncomputable def fnM (S:Sig)(ds:List (Str×Stmt)):Nat->Str->MF
 | 0,_=>fun _ _=>none
 | k+1,x=>match ds.lookup x with
  | none=>fun _ _=>none
  | some st=>bodyM S (fnM S ds k) st
structure DefAt (K:PySem.W.Frag)(mg:Str->Option Value)(x:Str)(st:Stmt):Prop where
 ex:∃ f fd,Fun K x x st f fd/\mg x=some (.ref f)/\Binds K fd (dfPs st) []
structure TxtOk (P:Program)(w:World)(K:PySem.W.Frag)(mg:Str->Option Value)(S:Sig)(ds:List (Str×Stmt)):Prop where
 fns:∀ x n,S.fn.lookup x=some n->∃ st,ds.lookup x=some st/\(dfPs st).length=n
 defs:∀ x st,ds.lookup x=some st->DefAt K mg x st/\scopeB st=true
 con:∀ x d,S.con.lookup x=some d->∃ v u,mg x=some u/\RelV v u/\∀ π n H,IsD K π n H v d
 tab:∀ x kvs,S.tab.lookup x=some kvs->∃ (p:Addr)(vs:List (Key×V))(ws:List (Key×Value)),mg x=some (.ref p)/\(∀ h:Heap,K.In h->h.DictOf (mixKind P w) p ws)/\KV vs ws/\∀ π n H,IsKs K π n H vs kvs
 no:∀ x,S.no.contains x=true->mg x=none
theorem fnM_ok {P:Program}{w:World}{K:PySem.W.Frag}{mg:Str->Option Value}{base:Heap}{S:Sig}{ds:List (Str×Stmt)}(T:TxtOk P w K mg S ds):∀ (k:Nat)(x:Str)(st:Stmt)(f:Addr)(fd:FuncData),ds.lookup x=some st->Fun K x x st f fd->
  FnOk P w K mg base CX0 k f fd (dfPs st) (spM K (dfPs st).length (fnM S ds k x))
 | 0,x,st,f,fd,hl,hF=>⟨fun vs H Q E h=>h.1,fun A outer s H args us vs Q E hr he hb hv hs=>by
   obtain ⟨_,π,ds',μ,d,μ',R,i,hm,kc⟩:=hs
   cases hm⟩
 | k+1,x,st,f,fd,hl,hF=>by
  have ih:=fnM_ok (base:=base) T k
  have e:fnM S ds (k+1) x=bodyM S (fnM S ds k) st:=by
   show (match ds.lookup x with|none=>fun _ _=>none|some st=>bodyM S (fnM S ds k) st)=_
   rw [hl]
  rw [e]
  have Sc:=scopeB_ok (T.defs x st hl).2
  refine fn_okQ hF Sc (by unfold dfN;simp) rfl fun cdv A outer s H E hr=>?_
  have O:Okx S (fnM S ds k) k ⟨dfN st,(defScope st).names⟩ (cxOf CX0 P w K mg base (dfN st) x (defScope st) f cdv A outer s H E).nox:=by
   refine ⟨rfl,Sc.nd,rfl,Sc.kind,rfl,hr,PassesOwn.never,fun y n hy=>?_,T.con,fun y kvs q=>⟨T.tab y kvs q⟩,T.no⟩
   obtain ⟨st',h1,h2⟩:=T.fns y n hy
   obtain ⟨f',fd',F',m',b'⟩:=(T.defs y st' h1).1.ex
   subst h2
   exact ⟨f',fd',dfPs st',ih y st' f' fd' h1 F',m',F'.kp,b'⟩
  exact trB_ok (trS_ok O (fun _=>rfl) eFuel sFuel) (defBody st)
theorem weights_of:∀ {ns:List Int}{b:Nat},PySem.W.WData.weightAll (ns.map PySem.W.WData.int)<=b->∀ n∈ns,Builtin.Int.intBits n<=b
 | [],_,_,n,hn=>nomatch hn
 | m::ns,b,h,n,hn=>by
  have e:PySem.W.WData.weightAll ((m::ns).map PySem.W.WData.int)=PySem.W.WData.weight (.int m)+1+PySem.W.WData.weightAll (ns.map PySem.W.WData.int):=rfl
  have e2:PySem.W.WData.weight (.int m)=Builtin.Int.intBits m:=rfl
  rw [e,e2] at h
  rcases List.mem_cons.mp hn with rfl|hn
  ·omega
  ·exact weights_of (b:=b) (by omega) n hn
section
open PySem PySem.W PySem.Calls PyProof.Rows
theorem attach_callB {l:PySem.W.OpenLaw}{n:Nat}{q:Program}{loose:List Str}{XP:(Str->Option Value)->Heap->Prop}{YP:World->Heap->Prop}{d:DefRec}
  (hn:l.most=some n)(hdf:d.params.defaults=[])
  (call:∀ (w:World)(s₀ s₁:Shared)(mg mb:Str->Option Value)(fa:Addr)(o:Obj)(pm cd doc:Value)(a:Addr)(vs:List Value)(ns:List Int),
   Ground q loose [] XP w s₀ mg mb s₁.heap->YP w s₁.heap->
   s₁.heap.get? fa=some o->o.data=.func (docDef d.name d.params d.body d.scope pm cd doc)->s₁.heap.CodeRec cd d.name->mg d.name=some (.ref fa)->
   s₁.heap.get? a=some { cls:=.type "list",data:=.seq vs.toArray }->IntsAre vs ns->ns.length<=n->(∀ m∈ns,Builtin.Int.intBits m<=2 ^ 20)->s₁.gens = #[]->
   codeAny (model l.prog w) callerA (.call (.ref fa) ⟨[.ref a],[]⟩) (fun r s'=>r=.ok (.ret (.bool true))/\OldK s₁.heap s'.heap/\s'.os=s₁.os/\AllBare s'.gens) s₁) :
  PySem.W.WalkO q loose XP YP l.row.toRowW d [] (fun f vs=>PySem.call f vs):=by
 intro w s₀ s₁ mg mb G Y fa o pm cd doc dV kV ho hd hcd hD hmg hg args vals as hpre hlay hrd hwl hlo
 obtain rfl:dV=.none:=Dflts.none hD hdf
 obtain rfl:kV=.none:=Dflts.noKw hD
 obtain ⟨a,vs,ns,rfl,rfl,hobj,hints,hlen⟩:=Att.script_of hn hpre hwl
 have hb:∀ m∈ns,Builtin.Int.intBits m<=2 ^ 20:=by
  have h1:PySem.W.WData.layable (.list (ns.map PySem.W.WData.int))=true:=by
   have:=hlay
   unfold PySem.W.WData.layableAll at this
   simpa using this
  unfold PySem.W.WData.layable at h1
  rw [Bool.and_eq_true] at h1
  exact weights_of (of_decide_eq_true h1.2)
 refine enter_call (codeAny_mono (call w s₀ s₁ mg mb fa o pm cd doc a vs ns G Y ho (fd_plain hd) hcd hmg hobj hints hlen hb hg) fun r s' hq=>?_)
 obtain ⟨rfl,h2,h3,h4⟩:=hq
 exact ⟨.inl ⟨.bool true,.bool true,[],rfl,fun _=>rfl,.bool true,Att.post_true l _,fun _=>⟨List.Pairwise.nil,fun _ hm=>(nomatch hm)⟩⟩,h2,h3,h4⟩
end
theorem walkM {l:PySem.W.OpenLaw}{q:Program}{loose:List Str}{XP:(Str->Option Value)->Heap->Prop}{YP:World->Heap->Prop}{d:DefRec}{K:Params->PySem.W.Frag}{S:Sig}{ds:List (Str×Stmt)}{k:Nat}{st:Stmt}{x:Str}(hn:l.most=some 63)(hdf:d.params.defaults=[])
  (hr:Room k callerA)(hY:∀ (w:World)(h:Heap),YP w h->(K w.params).In h)(hl:ds.lookup d.name=some st)(hx:dfPs st=[x])
  (T:∀ (w:World)(mg:Str->Option Value)(h:Heap),(K w.params).In h->h.Ns mainGlobals mg->TxtOk l.prog w (K w.params) mg S ds/\∃ f fd,Fun (K w.params) d.name d.name st f fd/\mg d.name=some (.ref f)/\∀ (s:Shared)(u:Value),BindsTo s fd ⟨[u],[]⟩ [(x,u)])
  (M:∀ ns:List Int,ns.length<=63->(∀ m∈ns,Builtin.Int.intBits m<=2 ^ 20)->∃ μ',fnM S ds k d.name [.rol (ns.map D.int)] []=some (.bl true,μ')) :
  PySem.W.WalkO q loose XP YP l.row.toRowW d [] (fun f vs=>PySem.call f vs):=by
 refine attach_callB hn hdf fun w s₀ s₁ mg mb fa o pm cd doc a vs ns G Y ho hd hcd hmg hobj hints hlen hbd hg=>?_
 have KX:=hY w _ Y
 obtain ⟨hT,f,fd,hF,hm,hb⟩:=T w mg _ KX G.T.g
 rw [hmg] at hm
 cases hm
 refine L2.law_call (CX:=CX0) (sp:=spM (K w.params) 1 (fnM S ds k d.name)) KX G.T.g G.T.b G.T.builtins G.T.nolimit hg hobj hints (Nat.le_trans hlen (by decide)) hr (fun base hb1 hb2=>?_) hb (fun H hO hS=>?_) fun H e s' z=>z
 ·have:=fnM_ok (base:=base) hT k d.name st fa fd hl hF
  rw [hx] at this
  exact this
 ·refine ⟨rfl,fun _=>0,[.rol (ns.map D.int)],[],.bl true,?_⟩
  obtain ⟨μ',hM⟩:=M ns hlen hbd
  have hro:RoL (K w.params) H a (ns.map V.int):=by
   rcases hS with (h|h)|h
   ·rcases hO a with z|⟨o,xs,z⟩
    ·rw [z] at h;cases h
    ·rw [z] at h;cases h
   ·exact .inl h
   ·exact .inr h
  refine ⟨μ',⟨fun i j hi=>absurd hi (Nat.not_lt_zero _),fun i hi=>absurd hi (Nat.not_lt_zero _),fun i xs h=>(by cases h),fun i xs h=>(by cases h),fun i xs h=>(by cases h)
   ,fun i xs h=>(by cases h)
   ⟩,.cons (.rol hro ?_) .nil,hM,fun π' v H' _ _ hv=>?_⟩
  ·have:∀ ns:List Int,IsDs (K w.params) (fun _=>0) ([]:Hm).length H (ns.map V.int) (ns.map D.int):=fun ns=>by
    induction ns with
    | nil=>exact .nil
    | cons n r ih=>exact .cons (.int n) ih
   exact this ns
  ·cases hv
   rfl
end L3
namespace L3
open PySem L2
theorem size_le {its:Array Value}{n:Nat}(h:its.size=n)(hn:n<=sizeLine):its.size<=sizeLine:=by rw [h];exact hn
theorem lookup_mem {β:Type}:∀ {l:List (Str×β)}{x:Str}{b:β},l.lookup x=some b->(x,b)∈l:=fun h=>PySem.mem_of_lookup h
theorem fns_of {S:Sig}{ds:List (Str×Stmt)}(h:(S.fn.all fun p=>match ds.lookup p.1 with|some st=>decide ((dfPs st).length=p.2)|none=>false)=true):∀ x n,S.fn.lookup x=some n->∃ st,ds.lookup x=some st/\(dfPs st).length=n:=by
 intro x n e
 have:=List.all_eq_true.mp h (x,n) (lookup_mem e)
 dsimp only at this
 split at this
 ·rename_i st hs
  exact ⟨st,hs,of_decide_eq_true this⟩
 ·cases this
theorem defs_of {K:PySem.W.Frag}{mg:Str->Option Value}{ds:List (Str×Stmt)}(h:∀ p∈ds,DefAt K mg p.1 p.2/\scopeB p.2=true):∀ x st,ds.lookup x=some st->DefAt K mg x st/\scopeB st=true:=fun x st e=>h (x,st) (lookup_mem e)
theorem con_of {K:PySem.W.Frag}{mg:Str->Option Value}{cs:List (Str×D)}(h:∀ p∈cs,∃ v u,mg p.1=some u/\RelV v u/\∀ π n H,IsD K π n H v p.2):∀ x d,cs.lookup x=some d->∃ v u,mg x=some u/\RelV v u/\∀ π n H,IsD K π n H v d:=fun x d e=>h (x,d) (lookup_mem e)
inductive EntsOf (w:World):List DictEntry->List (Key×Value)->Prop where
 | nil:EntsOf w [] []
 | cons {e:DictEntry}{k:Key}{v:Value}{es:List DictEntry}{kvs:List (Key×Value)}(h:keyIs k e.key=true)(hh:e.hash=keyH w k)(hv:e.val=v)(t:EntsOf w es kvs):EntsOf w (e::es) ((k,v)::kvs)
theorem EntsOf.pairs {P:Program}{w:World}{es:List DictEntry}{kvs:List (Key×Value)}(x:EntsOf w es kvs):Pairs (mixKind P w) es kvs:=by
 induction x with
 | nil=>exact .nil
 | cons h hh hv _ ih=>exact .cons h hv ih
theorem EntsOf.keys {P:Program}{w:World}{es:List DictEntry}{kvs:List (Key×Value)}(x:EntsOf w es kvs):∀ e∈es,∃ k,(mixKind P w).is k e.key=true/\e.hash=(mixKind P w).hash k:=by
 induction x with
 | nil=>intro e he;exact nomatch he
 | @cons e k v es kvs h hh hv _ ih=>
  intro e' he
  rcases List.mem_cons.mp he with rfl|he
  ·exact ⟨k,h,hh⟩
  ·exact ih e' he
theorem no_of {mg:Str->Option Value}{ns:List Str}(h:∀ x∈ns,mg x=none):∀ x,ns.contains x=true->mg x=none:=fun x e=>h x (by simpa using e)
end L3
namespace L3
open PySem L2
noncomputable def W {α:Type}(o:Option α)(Q:α->Prop):Prop:=∃ r,o=some r/\Q r
section
variable {α β:Type}{o:Option α}{Q:α->Prop}
theorem W_some {r:α}{Q:α->Prop}:W (some r) Q↔Q r:=⟨fun ⟨_,h,q⟩=>by cases h;exact q,fun q=>⟨r,rfl,q⟩⟩
theorem W_none {Q:α->Prop}:W none Q↔False:=⟨fun ⟨_,h,_⟩=>(by cases h),fun h=>h.elim⟩
theorem W_bind {g:α->Option β}{Q:β->Prop}:W (o.bind g) Q↔W o fun r=>W (g r) Q:=by
 cases o with
 | none=>exact ⟨fun ⟨_,h,_⟩=>(by cases h),fun ⟨_,h,_⟩=>(by cases h)⟩
 | some a=>simp [W_some]
theorem W_map {g:α->β}{Q:β->Prop}:W (o.map g) Q↔W o fun r=>Q (g r):=by
 cases o with
 | none=>exact ⟨fun ⟨_,h,_⟩=>(by cases h),fun ⟨_,h,_⟩=>(by cases h)⟩
 | some a=>simp [W_some]
theorem W_mono {Q':α->Prop}(h:W o Q)(k:∀ r,Q r->Q' r):W o Q':=let ⟨r,e,q⟩:=h;⟨r,e,k r q⟩
theorem W_ite {c:Prop} [Decidable c] {a b:Option α}:W (if c then a else b) Q↔if c then W a Q else W b Q:=by split<;>rfl
end
noncomputable def fin:Option (Fl×Rho×Hm)->Option (D×Hm):=fun o=>o.bind fun p=>match p.1 with|.rt d=>some (d,p.2.2)|.nx=>some (.non,p.2.2)|_=>none
theorem W_fin {o:Option (Fl×Rho×Hm)}{Q:D×Hm->Prop}:W (fin o) Q↔W o fun p=>match p.1 with|.rt d=>Q (d,p.2.2)|.nx=>Q (.non,p.2.2)|_=>False:=by
 unfold fin
 rw [W_bind]
 constructor
 ·exact fun h=>W_mono h fun p q=>by
   obtain ⟨fl,ρ,μ⟩:=p
   cases fl<;>simpa [W_some,W_none] using q
 ·exact fun h=>W_mono h fun p q=>by
   obtain ⟨fl,ρ,μ⟩:=p
   cases fl<;>simpa [W_some,W_none] using q
theorem pre_get {μ μ':Hm}(h:μ <+: μ'){a:Nat}{c:C}(e:μ[a]? = some c):μ'[a]? = some c:=by
 obtain ⟨t,rfl⟩:=h
 have hl:=(Zg.mp e).1
 rw [List.getElem?_append_left hl]
 exact e
theorem pre_snoc (μ:Hm)(c:C):μ <+: μ++[c]:=⟨[c],rfl⟩
theorem pre_set {μ μ':Hm}(h:μ <+: μ'){a:Nat}(ha:μ.length<=a)(c:C):μ <+: μ'.set a c:=by
 obtain ⟨t,rfl⟩:=h
 rw [List.set_append_right _ _ ha]
 exact ⟨_,rfl⟩
theorem w_mSeq {a b:MS}{ρ:Rho}{μ:Hm} {Q}:W (mSeq a b ρ μ) Q↔W (a ρ μ) fun p=>match p.1 with|.nx=>W (b p.2.1 p.2.2) Q|_=>Q p:=by
 unfold mSeq
 rw [W_bind]
 constructor
 ·exact fun h=>W_mono h fun p q=>by
   obtain ⟨fl,ρ,μ⟩:=p
   cases fl<;>simpa [W_some,W_none] using q
 ·exact fun h=>W_mono h fun p q=>by
   obtain ⟨fl,ρ,μ⟩:=p
   cases fl<;>simpa [W_some,W_none] using q
theorem w_mRet {m:ME}{ρ:Rho}{μ:Hm} {Q}:W (mRet m ρ μ) Q↔W (m ρ μ) fun p=>Q (.rt p.1,ρ,p.2):=W_map
theorem w_mDrop {m:ME}{ρ:Rho}{μ:Hm} {Q}:W (mDrop m ρ μ) Q↔W (m ρ μ) fun p=>Q (.nx,ρ,p.2):=W_map
theorem w_mSet {i:Nat}{m:ME}{ρ:Rho}{μ:Hm} {Q}:W (mSet i m ρ μ) Q↔W (m ρ μ) fun p=>Q (.nx,ρ.set i (some p.1),p.2):=W_map
theorem w_mNext {ρ:Rho}{μ:Hm} {Q}:W (mNext ρ μ) Q↔Q (.nx,ρ,μ):=W_some
theorem w_mIfS {t:MT}{a b:MS}{ρ:Rho}{μ:Hm} {Q}:W (mIfS t a b ρ μ) Q↔W (t ρ μ) fun p=>if p.1=true then W (a ρ p.2) Q else W (b ρ p.2) Q:=by
 unfold mIfS
 rw [W_bind]
 constructor<;>exact fun h=>W_mono h fun p q=>by
   obtain ⟨x,μ⟩:=p
   cases x<;>simpa using q
theorem w_mIfE {t:MT}{a b:ME}{ρ:Rho}{μ:Hm} {Q}:W (mIfE t a b ρ μ) Q↔W (t ρ μ) fun p=>if p.1=true then W (a ρ p.2) Q else W (b ρ p.2) Q:=by
 unfold mIfE
 rw [W_bind]
 constructor<;>exact fun h=>W_mono h fun p q=>by
   obtain ⟨x,μ⟩:=p
   cases x<;>simpa using q
theorem w_mAndT {a b:MT}{ρ:Rho}{μ:Hm} {Q}:W (mAndT a b ρ μ) Q↔W (a ρ μ) fun p=>if p.1=true then W (b ρ p.2) Q else Q (false,p.2):=by
 unfold mAndT
 rw [W_bind]
 constructor<;>exact fun h=>W_mono h fun p q=>by
   obtain ⟨x,μ⟩:=p
   cases x<;>simpa [W_some] using q
theorem w_mOrT {a b:MT}{ρ:Rho}{μ:Hm} {Q}:W (mOrT a b ρ μ) Q↔W (a ρ μ) fun p=>if p.1=true then Q (true,p.2) else W (b ρ p.2) Q:=by
 unfold mOrT
 rw [W_bind]
 constructor<;>exact fun h=>W_mono h fun p q=>by
   obtain ⟨x,μ⟩:=p
   cases x<;>simpa [W_some] using q
theorem w_mNotT {a:MT}{ρ:Rho}{μ:Hm} {Q}:W (mNotT a ρ μ) Q↔W (a ρ μ) fun p=>Q (!p.1,p.2):=W_map
theorem w_mOp {f:D->D->Hm->Option (D×Hm)}{a b:ME}{ρ:Rho}{μ:Hm} {Q}:W (mOp f a b ρ μ) Q↔W (a ρ μ) fun p=>W (b ρ p.2) fun q=>W (f p.1 q.1 q.2) Q:=by
 unfold mOp
 rw [W_bind]
 simp only [W_bind]
theorem w_mC {d:D}{ρ:Rho}{μ:Hm} {Q}:W (mC d ρ μ) Q↔Q (d,μ):=W_some
theorem w_mVar0 {d:D}{ρ:Rho}{μ:Hm} {Q}:W (mVar 0 (some d::ρ) μ) Q↔Q (d,μ):=by
 show W (some (d,μ)) Q↔_
 exact W_some
theorem w_mVarS {i:Nat}{x:Option D}{ρ:Rho}{μ:Hm} {Q}:W (mVar (i+1) (x::ρ) μ) Q↔W (mVar i ρ μ) Q:=by
 unfold mVar
 rw [List.getElem?_cons_succ]
theorem w_mNil {ρ:Rho}{μ:Hm} {Q}:W (mNil ρ μ) Q↔Q ([],μ):=W_some
theorem w_mCons {a:ME}{r:MA}{ρ:Rho}{μ:Hm} {Q}:W (mCons a r ρ μ) Q↔W (a ρ μ) fun p=>W (r ρ p.2) fun q=>Q (p.1::q.1,q.2):=by
 unfold mCons
 simp only [W_bind,W_some]
theorem w_mTup {ms:MA}{ρ:Rho}{μ:Hm} {Q}:W (mTup ms ρ μ) Q↔W (ms ρ μ) fun p=>p.1.length<=sizeLine/\Q (.tup p.1,p.2):=by
 unfold mTup
 rw [W_bind]
 constructor<;>exact fun h=>W_mono h fun p q=>by
  first
  | (rw [W_ite] at q;split at q
     ·exact ⟨by assumption,W_some.mp q⟩
     ·exact (W_none.mp q).elim)
  | (rw [if_pos q.1];exact W_some.mpr q.2)
theorem w_mLst {ms:MA}{ρ:Rho}{μ:Hm} {Q}:W (mLst ms ρ μ) Q↔W (ms ρ μ) fun p=>p.1.length<=sizeLine/\Q (.loc p.2.length,p.2++[.lst p.1]):=by
 unfold mLst
 rw [W_bind]
 constructor<;>exact fun h=>W_mono h fun p q=>by
  first
  | (rw [W_ite] at q;split at q
     ·exact ⟨by assumption,W_some.mp q⟩
     ·exact (W_none.mp q).elim)
  | (rw [if_pos q.1];exact W_some.mpr q.2)
theorem w_mCall {f:MF}{ms:MA}{ρ:Rho}{μ:Hm} {Q}:W (mCall f ms ρ μ) Q↔W (ms ρ μ) fun p=>W (f p.1 p.2) Q:=W_bind
theorem w_mTest {m:ME}{ρ:Rho}{μ:Hm} {Q}:W (mTest m ρ μ) Q↔W (m ρ μ) fun p=>match p.1 with|.bl b=>Q (b,p.2)|_=>False:=by
 unfold mTest
 rw [W_bind]
 constructor<;>exact fun h=>W_mono h fun p q=>by
  obtain ⟨d,μ⟩:=p
  cases d<;>simpa [W_some,W_none] using q
theorem w_mTru {m:ME}{ρ:Rho}{μ:Hm} {Q}:W (mTru m ρ μ) Q↔W (m ρ μ) fun p=>W (truD p.2 p.1) fun b=>Q (b,p.2):=by
 unfold mTru
 simp only [W_bind,W_map]
theorem w_mNeg {a:ME}{ρ:Rho}{μ:Hm} {Q}:W (mNeg a ρ μ) Q↔W (a ρ μ) fun p=>match p.1 with|.int i=>Q (.int (-i),p.2)|_=>False:=by
 unfold mNeg
 rw [W_bind]
 constructor<;>exact fun h=>W_mono h fun p q=>by
  obtain ⟨d,μ⟩:=p
  cases d<;>simpa [W_some,W_none,W_map,negD] using q
theorem w_mNotV {a:ME}{ρ:Rho}{μ:Hm} {Q}:W (mNotV a ρ μ) Q↔W (a ρ μ) fun p=>match p.1 with|.bl b=>Q (.bl (!b),p.2)|_=>False:=by
 unfold mNotV
 rw [W_bind]
 constructor<;>exact fun h=>W_mono h fun p q=>by
  obtain ⟨d,μ⟩:=p
  cases d<;>simpa [W_some,W_none] using q
theorem w_mAndV {a b:ME}{ρ:Rho}{μ:Hm} {Q}:W (mAndV a b ρ μ) Q↔W (a ρ μ) fun p=>match p.1 with|.bl c=>if c=true then W (b ρ p.2) Q else Q (.bl false,p.2)|_=>False:=by
 unfold mAndV
 rw [W_bind]
 constructor<;>exact fun h=>W_mono h fun p q=>by
  obtain ⟨d,μ⟩:=p
  cases d with
  | bl c=>cases c<;>simpa [W_some] using q
  | _=>simpa [W_none] using q
theorem w_mAsg {m:ME}{g:MG}{ρ:Rho}{μ:Hm} {Q}:W (mAsg m g ρ μ) Q↔W (m ρ μ) fun p=>W (g p.1 ρ p.2) fun ρ'=>Q (.nx,ρ',p.2):=by
 unfold mAsg
 simp only [W_bind,W_map]
section
variable {i j:Int}{μ:Hm}{Q:D×Hm->Prop}{a b c d e g:D}
theorem w_addI:W (addD (.int i) (.int j) μ) Q↔Q (.int (i+j),μ):=W_some
theorem w_subI:W (subD (.int i) (.int j) μ) Q↔Q (.int (i - j),μ):=W_some
theorem w_modI (h:0<j):W (modD (.int i) (.int j) μ) Q↔Q (.int (i % j),μ):=by
 show W ((if 0<j then some (i % j) else none).map fun z=>(D.int z,μ)) Q↔_
 rw [if_pos h]
 exact W_some
theorem big30:(1073741824:Int)<2 ^ 4000:=by decide +kernel
theorem w_fdivB (h:0<j)(h2:j<2 ^ 4000):W (fdivD (.int i) (.int j) μ) Q↔Q (.int (i / j),μ):=by
 show W ((if 0<j/\j<2 ^ 4000 then some (i / j) else none).map fun z=>(D.int z,μ)) Q↔_
 rw [if_pos ⟨h,h2⟩]
 exact W_some
theorem w_fdivI (h:0<j)(h2:j<1073741824):W (fdivD (.int i) (.int j) μ) Q↔Q (.int (i / j),μ):=w_fdivB h (Int.lt_trans h2 big30)
theorem w_mulI (h:(-(2 ^ 64)<i/\i<2 ^ 64)\/(-(2 ^ 64)<j/\j<2 ^ 64)):W (mulD (.int i) (.int j) μ) Q↔Q (.int (i * j),μ):=by
 show W ((if ((-(2 ^ 64)<i/\i<2 ^ 64)\/(-(2 ^ 64)<j/\j<2 ^ 64))\/(i.natAbs<2 ^ 4000/\j.natAbs<2 ^ 4000)\/Builtin.Int.intBits i+Builtin.Int.intBits j<=134217728 then some (i * j) else none).map fun z=>(D.int z,μ)) Q↔_
 rw [if_pos (.inl h)]
 exact W_some
theorem w_eqI:W (eqM false (.int i) (.int j) μ) Q↔Q (.bl (i == j),μ):=W_some
theorem w_neI:W (eqM true (.int i) (.int j) μ) Q↔Q (.bl (!(i == j)),μ):=W_some
theorem w_eqS {x y:Str}:W (eqM false (.str x) (.str y) μ) Q↔Q (.bl (x == y),μ):=W_some
theorem w_eqB {x y:Bool}:W (eqM false (.bl x) (.bl y) μ) Q↔Q (.bl (x == y),μ):=W_some
theorem w_eqP {x y x' y':Int}:W (eqM false (.tup [.int x,.int y]) (.tup [.int x',.int y']) μ) Q↔Q (.bl (x == x'&&(y == y'&&true)),μ):=W_some
theorem w_neP {x y x' y':Int}:W (eqM true (.tup [.int x,.int y]) (.tup [.int x',.int y']) μ) Q↔Q (.bl (!(x == x'&&(y == y'&&true))),μ):=W_some
theorem w_ltI:W (ltD (.int i) (.int j) μ) Q↔Q (.bl (decide (i<j)),μ):=W_some
theorem w_gtI:W (gtD (.int i) (.int j) μ) Q↔Q (.bl (decide (j<i)),μ):=W_some
theorem w_geI:W (geD (.int i) (.int j) μ) Q↔Q (.bl (decide (j<=i)),μ):=W_some
theorem w_it20:W (itD (.tup [a,b]) (.int 0) μ) Q↔Q (a,μ):=W_some
theorem w_it21:W (itD (.tup [a,b]) (.int 1) μ) Q↔Q (b,μ):=W_some
theorem w_it60:W (itD (.tup [a,b,c,d,e,g]) (.int 0) μ) Q↔Q (a,μ):=W_some
theorem w_it61:W (itD (.tup [a,b,c,d,e,g]) (.int 1) μ) Q↔Q (b,μ):=W_some
theorem w_it62:W (itD (.tup [a,b,c,d,e,g]) (.int 2) μ) Q↔Q (c,μ):=W_some
theorem w_it63:W (itD (.tup [a,b,c,d,e,g]) (.int 3) μ) Q↔Q (d,μ):=W_some
theorem w_it64:W (itD (.tup [a,b,c,d,e,g]) (.int 4) μ) Q↔Q (e,μ):=W_some
theorem w_it65:W (itD (.tup [a,b,c,d,e,g]) (.int 5) μ) Q↔Q (g,μ):=W_some
theorem w_truB {b:Bool}{Q:Bool->Prop}:W (truD μ (.bl b)) Q↔Q b:=W_some
theorem w_gTup2 {ρ:Rho}{i j:Nat}{Q:Rho->Prop}:W (gTupD [i,j] (.tup [a,b]) ρ μ) Q↔Q ((ρ.set i (some a)).set j (some b)):=W_some
end
theorem w_itL {μ:Hm}{a:Nat}{xs:List D}{i:Int}{d:D}{Q:D×Hm->Prop}(h:μ[a]? = some (.lst xs))(hi:atI xs i=some d):W (itD (.loc a) (.int i) μ) Q↔Q (d,μ):=by
 have:itD (.loc a) (.int i) μ=some (d,μ):=by
  simp only [itD,ixD,seqD,h,Option.bind_some,hi,Option.map_some]
 rw [this]
 exact W_some
theorem w_gTupL {μ:Hm}{l:Nat}{a b:D}{ρ:Rho}{i j:Nat}{Q:Rho->Prop}(h:μ[l]? = some (.lst [a,b])):W (gTupD [i,j] (.loc l) ρ μ) Q↔Q ((ρ.set i (some a)).set j (some b)):=by
 have:gTupD [i,j] (.loc l) ρ μ=some ((ρ.set i (some a)).set j (some b)):=by
  simp only [gTupD,seqD,h,Option.bind_some]
  rfl
 rw [this]
 exact W_some
end L3
namespace L3
open PySem L2
theorem w_iSeq {m:ME}{ρ:Rho}{μ:Hm}{Q:Src×Nat×Hm->Prop}:W (iSeqD m ρ μ) Q↔W (m ρ μ) fun p=>W (seqS p.2 p.1) fun xs=>Q (srcS p.1,xs.length+1,p.2):=by
 unfold iSeqD
 simp only [W_bind,W_map]
theorem w_mForI {it:MI}{g:MG}{b:MS}{ρ:Rho}{μ:Hm} {Q}:W (mForI it g b ρ μ) Q↔W (it ρ μ) fun p=>W (goFor p.1 g b p.2.1 0 ρ p.2.2) Q:=W_bind
theorem w_iRng1 {j:Int}{ms:MA}{ρ:Rho}{μ:Hm}{Q:Src×Nat×Hm->Prop}:W (iRng1D ms ρ μ) Q↔W (ms ρ μ) fun p=>match p.1 with|[.int j]=>(-(2 ^ 62)<=j/\j<2 ^ 62)/\Q (srcRng 0 j.toNat,j.toNat+1,p.2)|_=>False:=by
 unfold iRng1D
 rw [W_bind]
 constructor<;>exact fun h=>W_mono h fun p q=>by
  obtain ⟨l,μ⟩:=p
  match l,q with
  | [],q=>simpa [W_none] using q
  | [d],q=>
   cases d with
   | int j=>
    first
    | (dsimp only at q;rw [W_ite] at q;split at q
       ·rename_i hb;exact ⟨hb,W_some.mp q⟩
       ·exact (W_none.mp q).elim)
    | (dsimp only;rw [if_pos q.1];exact W_some.mpr q.2)
   | _=>simpa [W_none] using q
  | a::b::l,q=>simpa [W_none] using q
theorem w_iRng2 {ms:MA}{ρ:Rho}{μ:Hm}{Q:Src×Nat×Hm->Prop}:W (iRng2D ms ρ μ) Q↔W (ms ρ μ) fun p=>match p.1 with|[.int i,.int j]=>(-(2 ^ 62)<=i/\i<2 ^ 62/\-(2 ^ 62)<=j/\j<2 ^ 62)/\Q (srcRng i (j - i).toNat,(j - i).toNat+1,p.2)|_=>False:=by
 unfold iRng2D
 rw [W_bind]
 constructor<;>exact fun h=>W_mono h fun p q=>by
  obtain ⟨l,μ⟩:=p
  match l,q with
  | [],q=>simpa [W_none] using q
  | [d],q=>cases d<;>simpa [W_none] using q
  | [d,e],q=>
   cases d with
   | int i=>
    cases e with
    | int j=>
     first
     | (dsimp only at q;rw [W_ite] at q;split at q
        ·rename_i hb;exact ⟨hb,W_some.mp q⟩
        ·exact (W_none.mp q).elim)
     | (dsimp only;rw [if_pos q.1];exact W_some.mpr q.2)
    | _=>simpa [W_none] using q
   | _=>cases e<;>simpa [W_none] using q
  | a::b::c::l,q=>cases a<;>cases b<;>simpa [W_none] using q
theorem w_goFor {src:Src}{g:MG}{b:MS}{N:Nat}{Q:Fl×Rho×Hm->Prop}(I:Nat->Rho->Hm->Prop)
  (go:∀ i ρ μ,i<N->I i ρ μ->∃ d ρ1,src μ i=some (some d)/\g d ρ μ=some ρ1/\W (b ρ1 μ) fun p=>match p.1 with|.nx=>I (i+1) p.2.1 p.2.2|.ct=>I (i+1) p.2.1 p.2.2|.bk=>Q (.nx,p.2.1,p.2.2)|.rt d=>Q (.rt d,p.2.1,p.2.2))
  (stop:∀ ρ μ,I N ρ μ->src μ N=some none/\Q (.nx,ρ,μ)):∀ (m i:Nat)(ρ:Rho)(μ:Hm),i+m=N->I i ρ μ->W (goFor src g b (m+1) i ρ μ) Q
 | 0,i,ρ,μ,h,hI=>by
  have:i=N:=by omega
  subst this
  obtain ⟨h1,h2⟩:=stop ρ μ hI
  unfold goFor
  rw [h1]
  exact W_some.mpr h2
 | m+1,i,ρ,μ,h,hI=>by
  obtain ⟨d,ρ1,h1,h2,h3⟩:=go i ρ μ (by omega) hI
  unfold goFor
  rw [h1]
  simp only [Option.bind_some,h2]
  rw [W_bind]
  refine W_mono h3 fun p q=>?_
  obtain ⟨fl,ρ2,μ2⟩:=p
  cases fl with
  | nx=>exact w_goFor I go stop m (i+1) ρ2 μ2 (by omega) q
  | ct=>exact w_goFor I go stop m (i+1) ρ2 μ2 (by omega) q
  | bk=>exact W_some.mpr q
  | rt d=>exact W_some.mpr q
theorem w_forL {a:Nat}{xs:List D}{g:MG}{b:MS}{ρ:Rho}{μ:Hm}{Q:Fl×Rho×Hm->Prop}(I:Nat->Rho->Hm->Prop)(h0:I 0 ρ μ)(hl:∀ i ρ μ,I i ρ μ->μ[a]? = some (.lst xs))
  (go:∀ i d ρ μ,xs[i]? = some d->I i ρ μ->∃ ρ1,g d ρ μ=some ρ1/\W (b ρ1 μ) fun p=>match p.1 with|.nx=>I (i+1) p.2.1 p.2.2|.ct=>I (i+1) p.2.1 p.2.2|.bk=>Q (.nx,p.2.1,p.2.2)|.rt d=>Q (.rt d,p.2.1,p.2.2))
  (stop:∀ ρ μ,I xs.length ρ μ->Q (.nx,ρ,μ)):W (goFor (srcS (.loc a)) g b (xs.length+1) 0 ρ μ) Q:=by
 refine w_goFor (N:=xs.length) I (fun i ρ μ hi hI=>?_) (fun ρ μ hI=>⟨?_,stop ρ μ hI⟩) xs.length 0 ρ μ (by omega) h0
 ·have e:xs[i]? = some xs[i]:=List.getElem?_eq_getElem hi
  obtain ⟨ρ1,h1,h2⟩:=go i xs[i] ρ μ e hI
  refine ⟨xs[i],ρ1,?_,h1,h2⟩
  simp only [srcS,seqS,seqD,hl i ρ μ hI,Option.map_some,e]
 ·simp only [srcS,seqS,seqD,hl _ ρ μ hI,Option.map_some]
  simp
theorem w_forR {lo:Int}{n:Nat}{g:MG}{b:MS}{ρ:Rho}{μ:Hm}{Q:Fl×Rho×Hm->Prop}(I:Nat->Rho->Hm->Prop)(h0:I 0 ρ μ)
  (go:∀ (i:Nat) ρ μ,i<n->I i ρ μ->∃ ρ1,g (.int (lo+i)) ρ μ=some ρ1/\W (b ρ1 μ) fun p=>match p.1 with|.nx=>I (i+1) p.2.1 p.2.2|.ct=>I (i+1) p.2.1 p.2.2|.bk=>Q (.nx,p.2.1,p.2.2)|.rt d=>Q (.rt d,p.2.1,p.2.2))
  (stop:∀ ρ μ,I n ρ μ->Q (.nx,ρ,μ)):W (goFor (srcRng lo n) g b (n+1) 0 ρ μ) Q:=by
 refine w_goFor (N:=n) I (fun i ρ μ hi hI=>?_) (fun ρ μ hI=>⟨?_,stop ρ μ hI⟩) n 0 ρ μ (by omega) h0
 ·obtain ⟨ρ1,h1,h2⟩:=go i ρ μ hi hI
  exact ⟨_,ρ1,by simp only [srcRng,if_pos hi],h1,h2⟩
 ·simp only [srcRng,Nat.lt_irrefl,if_false]
theorem appD_at {μ:Hm}{a:Nat}{ys:List D}{y:D}(h:μ[a]? = some (.lst ys))(hl:ys.length<sizeLine):appD μ a y=some (μ.set a (.lst (ys++[y]))):=by
 unfold appD
 rw [h]
 exact if_pos hl
theorem w_goComp {src:Src}{c:MT}{e:ME}{ρ:Rho}{μ0:Hm}{xs:List D}{p:D->Bool}{v:D->D}{Q:Hm->Prop}(hs:∀ μ i,μ0 <+: μ->src μ i=some xs[i]?)(hl:xs.length<=sizeLine)
  (hc:∀ d μ,d∈xs->μ0 <+: μ->W (c (ρ++[some d]) μ) fun r=>r.1=p d/\μ <+: r.2)
  (he:∀ d μ,d∈xs->p d=true->μ0 <+: μ->W (e (ρ++[some d]) μ) fun r=>r.1=v d/\μ <+: r.2)
  (fin:∀ μ,μ0 <+: μ->μ[μ0.length]? = some (.lst ((xs.filter p).map v))->Q μ) :
  ∀ (m i:Nat)(μ:Hm),i+m=xs.length->μ0 <+: μ->μ[μ0.length]? = some (.lst (((xs.take i).filter p).map v))->W (goCompG src bdOne c e ρ μ0.length (m+1) i μ) Q
 | 0,i,μ,hi,hp,ha=>by
  have:i=xs.length:=by omega
  subst this
  unfold goCompG
  rw [hs μ _ hp]
  rw [List.getElem?_eq_none (Nat.le_refl _)]
  simp only [Option.bind_some]
  refine W_some.mpr (fin μ hp ?_)
  simpa using ha
 | m+1,i,μ,hi,hp,ha=>by
  have hlt:i<xs.length:=by omega
  have hx:xs[i]? = some xs[i]:=List.getElem?_eq_getElem hlt
  have hmem:xs[i]∈xs:=List.getElem_mem hlt
  unfold goCompG
  rw [hs μ _ hp,hx]
  simp only [Option.bind_some,bdOne]
  rw [W_bind]
  refine W_mono (hc _ μ hmem hp) fun r q=>?_
  obtain ⟨b,μ1⟩:=r
  obtain ⟨q1,q2⟩:=q
  dsimp only at q1 q2 ⊢
  subst q1
  have htake:xs.take (i+1)=xs.take i++[xs[i]]:=by rw [List.take_succ,hx];rfl
  have ha1:=pre_get q2 ha
  cases hpd:p xs[i] with
  | false=>
   refine w_goComp hs hl hc he fin m (i+1) μ1 (by omega) (hp.trans q2) ?_
   rw [ha1,htake,List.filter_append]
   simp [hpd]
  | true=>
   dsimp only
   rw [W_bind]
   refine W_mono (he _ μ1 hmem hpd (hp.trans q2)) fun r q=>?_
   obtain ⟨y,μ2⟩:=r
   obtain ⟨q3,q4⟩:=q
   dsimp only at q3 q4 ⊢
   subst q3
   have ha2:=pre_get q4 ha1
   have hlen:(((xs.take i).filter p).map v).length<sizeLine:=by
    have h1:=List.length_filter_le p (xs.take i)
    rw [Zl]
    rw [List.length_take] at h1
    omega
   rw [appD_at ha2 hlen,Option.bind_some]
   have hp2:μ0 <+: μ2:=(hp.trans q2).trans q4
   refine w_goComp hs hl hc he fin m (i+1) _ (by omega) (pre_set hp2 (Nat.le_refl _) _) ?_
   rw [List.getElem?_set_self (Zg.mp ha2).1,htake,List.filter_append]
   simp [hpd]
theorem w_comp {it:MI}{c:MT}{e:ME}{ρ:Rho}{μ:Hm}{xs:List D}{p:D->Bool}{v:D->D}{Q:D×Hm->Prop}
  (hit:W (it ρ μ) fun r=>(∀ μ' i,r.2.2 <+: μ'->r.1 μ' i=some xs[i]?)/\r.2.1=xs.length+1/\xs.length<=sizeLine /\
   (∀ d μ',d∈xs->r.2.2 <+: μ'->W (c (ρ++[some d]) μ') fun s=>s.1=p d/\μ' <+: s.2)/\(∀ d μ',d∈xs->p d=true->r.2.2 <+: μ'->W (e (ρ++[some d]) μ') fun s=>s.1=v d/\μ' <+: s.2) /\
   ∀ μ',r.2.2 <+: μ'->μ'[r.2.2.length]? = some (.lst ((xs.filter p).map v))->Q (.loc r.2.2.length,μ')):W (mCompI it c e ρ μ) Q:=by
 unfold mCompI mCompG
 rw [W_bind]
 refine W_mono hit fun r q=>?_
 obtain ⟨src,n,μ1⟩:=r
 obtain ⟨h1,h2,h3,h4,h5,h6⟩:=q
 dsimp only at h1 h2 h3 h4 h5 h6 ⊢
 subst h2
 rw [W_map]
 exact w_goComp h1 h3 h4 h5 h6 xs.length 0 (μ1++[.lst []]) (by omega) (pre_snoc _ _) (by simp)
theorem src_loc {μ:Hm}{a:Nat}{xs:List D}(h:μ[a]? = some (.lst xs)):∀ μ' i,μ <+: μ'->srcS (.loc a) μ' i=some xs[i]?:=fun μ' i hp=>by
 simp only [srcS,seqS,seqD,pre_get hp h,Option.map_some]
theorem src_tup {xs:List D}{μ:Hm}:∀ μ' i,μ <+: μ'->srcS (.tup xs) μ' i=some xs[i]?:=fun μ' i hp=>rfl
noncomputable def rngD (lo:Int)(n:Nat):List D:=(List.range n).map fun (i:Nat)=>.int (lo+(i:Int))
theorem src_rng {lo:Int}{n:Nat}{μ:Hm}:∀ μ' i,μ <+: μ'->srcRng lo n μ' i=some (rngD lo n)[i]?:=fun μ' i _=>by
 unfold srcRng rngD
 rw [List.getElem?_map]
 by_cases h:i<n
 ·rw [if_pos h,List.getElem?_range h];rfl
 ·rw [if_neg h,List.getElem?_eq_none (by simpa using Nat.not_lt.mp h)];rfl
noncomputable abbrev P (x y:Int):D:=.tup [.int x,.int y]
noncomputable abbrev PP (p:Int×Int):D:=P p.1 p.2
theorem eq_PP (n:Nat)(μ:Hm)(p q:Int×Int):eqD (n+2) μ (PP p) (PP q)=some (p == q):=by
 obtain ⟨a,b⟩:=p
 obtain ⟨c,d⟩:=q
 show some (a == c&&(b == d&&true))=some ((a,b) == (c,d))
 rw [Bool.and_true]
 rfl
theorem eqs_PP (n:Nat)(μ:Hm):∀ ps qs:List (Int×Int),eqs (eqD (n+2) μ) (ps.map PP) (qs.map PP)=some (ps == qs)
 | [],[]=>rfl
 | [],_::_=>rfl
 | _::_,[]=>rfl
 | p::ps,q::qs=>by
  rw [List.map_cons,List.map_cons]
  show (eqD (n+2) μ (PP p) (PP q)).bind (fun b=>(eqs (eqD (n+2) μ) (ps.map PP) (qs.map PP)).map fun c=>b&&c)=_
  rw [eq_PP,eqs_PP n μ ps qs]
  rfl
theorem eqL_PP {μ:Hm}{a b:Nat}{ps qs:List (Int×Int)}(ha:μ[a]? = some (.lst (ps.map PP)))(hb:μ[b]? = some (.lst (qs.map PP))):eqD 8 μ (.loc a) (.loc b)=some (ps == qs):=by
 have h1:kindD μ (.loc a)=some (.lst (ps.map PP)):=by simp only [kindD,ha]
 have h2:kindD μ (.loc b)=some (.lst (qs.map PP)):=by simp only [kindD,hb]
 show (kindD μ (.loc a)).bind (fun x=>(kindD μ (.loc b)).bind fun y=>eqKd (eqD 7 μ) x y)=_
 rw [h1,h2]
 exact eqs_PP 5 μ ps qs
theorem w_eqL {μ:Hm}{a b:Nat}{ps qs:List (Int×Int)}{ne:Bool}{Q:D×Hm->Prop}(ha:μ[a]? = some (.lst (ps.map PP)))(hb:μ[b]? = some (.lst (qs.map PP))):W (eqM ne (.loc a) (.loc b) μ) Q↔Q (.bl (if ne then !(ps == qs) else ps == qs),μ):=by
 unfold eqM
 rw [eqL_PP ha hb]
 exact W_some
theorem eqs_ints (n:Nat)(μ:Hm):∀ ps qs:List Int,eqs (eqD (n+1) μ) (ps.map D.int) (qs.map D.int)=some (ps == qs)
 | [],[]=>rfl
 | [],_::_=>rfl
 | _::_,[]=>rfl
 | p::ps,q::qs=>by
  rw [List.map_cons,List.map_cons]
  show (eqD (n+1) μ (.int p) (.int q)).bind (fun b=>(eqs (eqD (n+1) μ) (ps.map D.int) (qs.map D.int)).map fun c=>b&&c)=_
  rw [eqs_ints n μ ps qs]
  rfl
theorem w_addL {μ:Hm}{a b:Nat}{xs ys:List D}{Q:D×Hm->Prop}(ha:μ[a]? = some (.lst xs))(hb:μ[b]? = some (.lst ys))(hl:xs.length+ys.length<=sizeLine):W (addD (.loc a) (.loc b) μ) Q↔Q (.loc μ.length,μ++[.lst (xs++ys)]):=by
 simp only [addD,ha,hb,if_pos hl]
 exact W_some
theorem w_mMeth {f:D->List D->Hm->Option (D×Hm)}{mo:ME}{ms:MA}{ρ:Rho}{μ:Hm}{Q:D×Hm->Prop}(h:W (mo ρ μ) fun p=>isLst p.2 p.1=true/\W (ms ρ p.2) fun q=>W (f p.1 q.1 q.2) Q):W (mMeth f mo ms ρ μ) Q:=by
 unfold mMeth
 rw [W_bind]
 refine W_mono h fun p q=>?_
 rw [q.1]
 exact W_bind.mpr q.2
theorem isLst_loc {μ:Hm}{a:Nat}{xs:List D}(h:μ[a]? = some (.lst xs)):isLst μ (.loc a)=true:=by
 simp only [isLst,h]
theorem w_append {μ:Hm}{a:Nat}{xs:List D}{y:D}{Q:D×Hm->Prop}(h:μ[a]? = some (.lst xs))(hl:xs.length<sizeLine):W (appendM (.loc a) [y] μ) Q↔Q (.non,μ.set a (.lst (xs++[y]))):=by
 simp only [appendM,appD_at h hl,Option.map_some]
 exact W_some
theorem w_extend {μ:Hm}{a b:Nat}{xs ys:List D}{Q:D×Hm->Prop}(h:μ[a]? = some (.lst xs))(h2:μ[b]? = some (.lst ys))(hl:xs.length+ys.length<=sizeLine):W (extendM (.loc a) [.loc b] μ) Q↔Q (.non,μ.set a (.lst (xs++ys))):=by
 simp only [extendM,h,h2,if_pos hl]
 exact W_some
theorem w_instIB {μ:Hm}{i:Int}{Q:D×Hm->Prop}:W (isInst [.int i,.ty "bool"] μ) Q↔Q (.bl false,μ):=W_some
theorem w_instII {μ:Hm}{i:Int}{Q:D×Hm->Prop}:W (isInst [.int i,.ty "int"] μ) Q↔Q (.bl true,μ):=W_some
theorem w_lenL {μ:Hm}{a:Nat}{xs:List D}{Q:D×Hm->Prop}(h:μ[a]? = some (.lst xs)):W (lenA [.loc a] μ) Q↔Q (.int xs.length,μ):=by
 simp only [lenA,lenM,seqD,h,Option.map_some]
 exact W_some
theorem w_lenR {μ:Hm}{xs:List D}{Q:D×Hm->Prop}:W (lenA [.rol xs] μ) Q↔Q (.int xs.length,μ):=W_some
theorem w_seqL {μ:Hm}{a:Nat}{xs:List D}{Q:List D->Prop}(h:μ[a]? = some (.lst xs)):W (seqS μ (.loc a)) Q↔Q xs:=by
 simp only [seqS,seqD,h]
 exact W_some
theorem w_seqT {μ:Hm}{xs:List D}{Q:List D->Prop}:W (seqS μ (.tup xs)) Q↔Q xs:=W_some
theorem w_mNoPart {ρ:Rho}{μ:Hm}{Q:Option Int×Hm->Prop}:W (mNoPart ρ μ) Q↔Q (none,μ):=W_some
theorem w_mPart {m:ME}{ρ:Rho}{μ:Hm}{Q:Option Int×Hm->Prop}:W (mPart m ρ μ) Q↔W (m ρ μ) fun p=>match p.1 with|.int i=>Q (some i,p.2)|_=>False:=by
 unfold mPart
 rw [W_bind]
 constructor<;>exact fun h=>W_mono h fun p q=>by
  obtain ⟨d,μ⟩:=p
  cases d<;>simpa [W_some,W_none] using q
theorem w_sliceL {a:ME}{lo hi:MO}{ρ:Rho}{μ:Hm}{Q:D×Hm->Prop}(h:W (a ρ μ) fun p=>∃ l,p.1=.loc l/\W (lo ρ p.2) fun q=>W (hi ρ q.2) fun r=>∃ xs,r.2[l]? = some (.lst xs)/\Q (.loc r.2.length,r.2++[.lst (cutD xs q.1 r.1)])):W (mSlice a lo hi ρ μ) Q:=by
 unfold mSlice
 rw [W_bind]
 refine W_mono h fun p q=>?_
 obtain ⟨d,μ1⟩:=p
 obtain ⟨l,q1,q2⟩:=q
 dsimp only at q1 q2 ⊢
 subst q1
 rw [W_bind]
 refine W_mono q2 fun s q=>?_
 rw [W_bind]
 refine W_mono q fun r q=>?_
 obtain ⟨xs,q3,q4⟩:=q
 simp only [seqD,q3,Option.bind_some]
 exact W_some.mpr q4
theorem get_last (μ:Hm)(c:C):(μ++[c])[μ.length]? = some c:=by simp
end L3
namespace L3
open PySem L2
theorem w_mChain {f g:D->D->Hm->Option (D×Hm)}{a b c:ME}{ρ:Rho}{μ:Hm} {Q}:W (mChain f g a b c ρ μ) Q↔W (a ρ μ) fun p=>W (b ρ p.2) fun q=>W (f p.1 q.1 q.2) fun r=>match r.1 with|.bl k=>if k=true then W (c ρ r.2) fun t=>W (g q.1 t.1 t.2) Q else Q (.bl false,r.2)|_=>False:=by
 unfold mChain
 simp only [W_bind]
 constructor<;>exact fun h=>W_mono h fun p q=>W_mono q fun q1 h1=>W_mono h1 fun r h2=>by
  obtain ⟨d,μ⟩:=r
  cases d with
  | bl k=>cases k<;>simpa [W_some,W_bind] using h2
  | _=>simpa [W_none] using h2
section
variable {i j:Int}{μ:Hm}{Q:D×Hm->Prop}
theorem w_isnotNN:W (isM true .non .non μ) Q↔Q (.bl false,μ):=W_some
theorem w_isnotTN {xs:List D}:W (isM true (.tup xs) .non μ) Q↔Q (.bl true,μ):=W_some
theorem intsD_map:∀ is:List Int,intsD (is.map D.int)=some is
 | []=>rfl
 | i::is=>by
  show (intsD (is.map D.int)).map (i::·)=_
  rw [intsD_map is];rfl
theorem w_sum {a:Nat}{is:List Int}(h:μ[a]? = some (.lst (is.map D.int))):W (sumM [.loc a] μ) Q↔Q (.int is.sum,μ):=by
 simp only [sumM,seqD,h,Option.bind_some,intsD_map,Option.map_some]
 exact W_some
theorem w_all {a:Nat}{bs:List Bool}(h:μ[a]? = some (.lst (bs.map D.bl))):W (allM [.loc a] μ) Q↔Q (.bl (bs.all id),μ):=by
 have e:∀ bs:List Bool,boolsD (bs.map D.bl)=some bs:=fun bs=>by
  induction bs with
  | nil=>rfl
  | cons b bs ih=>
   show (boolsD (bs.map D.bl)).map (b::·)=_
   rw [ih];rfl
 simp only [allM,seqD,h,Option.bind_some,e,Option.map_some]
 exact W_some
end
theorem w_sliceSL {a:ME}{lo hi st:MO}{ρ:Rho}{μ:Hm}{Q:D×Hm->Prop}(h:W (a ρ μ) fun p=>∃ l,p.1=.loc l/\W (lo ρ p.2) fun q=>W (hi ρ q.2) fun r=>W (st ρ r.2) fun t=>t.1≠some 0/\∃ xs,t.2[l]? = some (.lst xs)/\(pickS xs q.1 r.1 t.1).length<=sizeLine/\Q (.loc t.2.length,t.2++[.lst (pickS xs q.1 r.1 t.1)])):W (mSliceS a lo hi st ρ μ) Q:=by
 unfold mSliceS
 rw [W_bind]
 refine W_mono h fun p q=>?_
 obtain ⟨d,μ1⟩:=p
 obtain ⟨l,q1,q2⟩:=q
 dsimp only at q1 q2 ⊢
 subst q1
 rw [W_bind]
 refine W_mono q2 fun s q=>?_
 rw [W_bind]
 refine W_mono q fun r q=>?_
 rw [W_bind]
 refine W_mono q fun t q=>?_
 obtain ⟨h0,xs,q3,q4,q5⟩:=q
 rw [if_pos h0]
 simp only [lstD,q3,Option.bind_some]
 rw [if_pos q4]
 exact W_some.mpr q5
theorem w_iEnum {ms:MA}{ρ:Rho}{μ:Hm}{Q:Src×Nat×Hm->Prop}(h:W (ms ρ μ) fun p=>∃ a xs,p.1=[.loc a]/\p.2[a]? = some (.lst xs)/\Q (srcEnum (.loc a),xs.length+1,p.2)):W (iEnumD ms ρ μ) Q:=by
 unfold iEnumD
 rw [W_bind]
 refine W_mono h fun p q=>?_
 obtain ⟨l,μ1⟩:=p
 obtain ⟨a,xs,q1,q2,q3⟩:=q
 dsimp only at q1 q2 q3 ⊢
 subst q1
 dsimp only
 simp only [lstD,q2,Option.map_some]
 exact W_some.mpr q3
theorem w_forE {a:Nat}{xs:List D}{g:MG}{b:MS}{ρ:Rho}{μ:Hm}{Q:Fl×Rho×Hm->Prop}(I:Nat->Rho->Hm->Prop)(h0:I 0 ρ μ)(hl:∀ i ρ μ,I i ρ μ->μ[a]? = some (.lst xs))
  (go:∀ (i:Nat) d ρ μ,xs[i]? = some d->I i ρ μ->∃ ρ1,g (.tup [.int i,d]) ρ μ=some ρ1/\W (b ρ1 μ) fun p=>match p.1 with|.nx=>I (i+1) p.2.1 p.2.2|.ct=>I (i+1) p.2.1 p.2.2|.bk=>Q (.nx,p.2.1,p.2.2)|.rt d=>Q (.rt d,p.2.1,p.2.2))
  (stop:∀ ρ μ,I xs.length ρ μ->Q (.nx,ρ,μ)):W (goFor (srcEnum (.loc a)) g b (xs.length+1) 0 ρ μ) Q:=by
 refine w_goFor (N:=xs.length) I (fun i ρ μ hi hI=>?_) (fun ρ μ hI=>⟨?_,stop ρ μ hI⟩) xs.length 0 ρ μ (by omega) h0
 ·have e:xs[i]? = some xs[i]:=List.getElem?_eq_getElem hi
  obtain ⟨ρ1,h1,h2⟩:=go i xs[i] ρ μ e hI
  refine ⟨_,ρ1,?_,h1,h2⟩
  simp only [srcEnum,seqD,hl i ρ μ hI,Option.map_some,e]
 ·simp only [srcEnum,seqD,hl _ ρ μ hI,Option.map_some]
  simp
theorem w_goCompI {src:Src}{bd:BD}{c:MT}{e:ME}{ρ:Rho}{a N:Nat}{Q:Hm->Prop}(I:Nat->List D->Hm->Prop)(hN:N<=sizeLine)(hlen:∀ i ys μ,I i ys μ->ys.length<=i)
  (go:∀ i ys μ,i<N->I i ys μ->μ[a]? = some (.lst ys)->∃ d x,src μ i=some (some d)/\bd d μ=some x/\W (c (ρ++x) μ) fun r=>(r.1=false->r.2[a]? = some (.lst ys)/\I (i+1) ys r.2) /\
   (r.1=true->W (e (ρ++x) r.2) fun s=>s.2[a]? = some (.lst ys)/\I (i+1) (ys++[s.1]) (s.2.set a (.lst (ys++[s.1])))))
  (stop:∀ ys μ,I N ys μ->μ[a]? = some (.lst ys)->src μ N=some none/\Q μ):∀ (m i:Nat)(ys:List D)(μ:Hm),i+m=N->I i ys μ->μ[a]? = some (.lst ys)->W (goCompG src bd c e ρ a (m+1) i μ) Q
 | 0,i,ys,μ,h,hI,hg=>by
  have:i=N:=by omega
  subst this
  obtain ⟨h1,h2⟩:=stop ys μ hI hg
  unfold goCompG
  rw [h1]
  exact W_some.mpr h2
 | m+1,i,ys,μ,h,hI,hg=>by
  obtain ⟨d,x,h1,h2,h3⟩:=go i ys μ (by omega) hI hg
  unfold goCompG
  rw [h1]
  simp only [Option.bind_some,h2]
  rw [W_bind]
  refine W_mono h3 fun r q=>?_
  obtain ⟨b,μ1⟩:=r
  cases b with
  | false=>
   obtain ⟨q1,q2⟩:=q.1 rfl
   exact w_goCompI I hN hlen go stop m (i+1) ys μ1 (by omega) q2 q1
  | true=>
   dsimp only
   rw [W_bind]
   refine W_mono (q.2 rfl) fun s q=>?_
   obtain ⟨y,μ2⟩:=s
   obtain ⟨q1,q2⟩:=q
   dsimp only at q1 q2 ⊢
   have hl:=hlen i ys μ hI
   rw [appD_at q1 (by omega),Option.bind_some]
   refine w_goCompI I hN hlen go stop m (i+1) _ _ (by omega) q2 ?_
   rw [List.getElem?_set_self (Zg.mp q1).1]
theorem w_goCompT {src:Src}{bd:BD}{c:MT}{e:ME}{ρ:Rho}{μ0:Hm}{xs:List D}{x:D->Rho}{p:D->Bool}{v:D->D}{Q:Hm->Prop}(hs:∀ μ i,μ0 <+: μ->src μ i=some xs[i]?)(hl:xs.length<=sizeLine)(hb:∀ d μ,d∈xs->bd d μ=some (x d))
  (hc:∀ d μ,d∈xs->μ0 <+: μ->W (c (ρ++x d) μ) fun r=>r.1=p d/\μ <+: r.2)
  (he:∀ d μ,d∈xs->p d=true->μ0 <+: μ->W (e (ρ++x d) μ) fun r=>r.1=v d/\μ <+: r.2)
  (fin:∀ μ,μ0 <+: μ->μ[μ0.length]? = some (.lst ((xs.filter p).map v))->Q μ):W (goCompG src bd c e ρ μ0.length (xs.length+1) 0 (μ0++[.lst []])) Q:=by
 refine w_goCompI (N:=xs.length) (fun i ys μ=>ys=((xs.take i).filter p).map v/\μ0 <+: μ) hl ?_ ?_ ?_ xs.length 0 [] _ (by omega) ⟨by simp,pre_snoc _ _⟩ (by simp)
 ·rintro i ys μ ⟨rfl,_⟩
  rw [Zl]
  refine Nat.le_trans (List.length_filter_le _ _) ?_
  rw [List.length_take];omega
 ·rintro i ys μ hi ⟨rfl,hp⟩ hg
  have hx:xs[i]? = some xs[i]:=List.getElem?_eq_getElem hi
  have hmem:xs[i]∈xs:=List.getElem_mem hi
  have htake:xs.take (i+1)=xs.take i++[xs[i]]:=by rw [List.take_succ,hx];rfl
  refine ⟨xs[i],x xs[i],by rw [hs μ i hp,hx],hb _ _ hmem,W_mono (hc _ μ hmem hp) fun r q=>?_⟩
  obtain ⟨b,μ1⟩:=r
  obtain ⟨q1,q2⟩:=q
  dsimp only at q1 q2 ⊢
  refine ⟨fun hb'=>⟨pre_get q2 hg,?_,hp.trans q2⟩,fun hb'=>?_⟩
  ·rw [htake,List.filter_append]
   rw [hb'] at q1
   simp [<- q1]
  ·rw [hb'] at q1
   refine W_mono (he _ μ1 hmem q1.symm (hp.trans q2)) fun s q=>?_
   obtain ⟨y,μ2⟩:=s
   obtain ⟨q3,q4⟩:=q
   dsimp only at q3 q4 ⊢
   subst q3
   refine ⟨pre_get (q2.trans q4) hg,?_,pre_set ((hp.trans q2).trans q4) (Nat.le_refl _) _⟩
   rw [htake,List.filter_append,List.map_append]
   simp [<- q1]
 ·rintro ys μ ⟨rfl,hp⟩ hg
  refine ⟨by rw [hs μ _ hp];simp,fin μ hp ?_⟩
  rw [List.take_length] at hg
  exact hg
theorem w_compT {bd:BD}{it:MI}{c:MT}{e:ME}{ρ:Rho}{μ:Hm}{xs:List D}{x:D->Rho}{p:D->Bool}{v:D->D}{Q:D×Hm->Prop}
  (hit:W (it ρ μ) fun r=>(∀ μ' i,r.2.2 <+: μ'->r.1 μ' i=some xs[i]?)/\r.2.1=xs.length+1/\xs.length<=sizeLine/\(∀ d μ',d∈xs->bd d μ'=some (x d)) /\
   (∀ d μ',d∈xs->r.2.2 <+: μ'->W (c (ρ++x d) μ') fun s=>s.1=p d/\μ' <+: s.2)/\(∀ d μ',d∈xs->p d=true->r.2.2 <+: μ'->W (e (ρ++x d) μ') fun s=>s.1=v d/\μ' <+: s.2) /\
   ∀ μ',r.2.2 <+: μ'->μ'[r.2.2.length]? = some (.lst ((xs.filter p).map v))->Q (.loc r.2.2.length,μ')):W (mCompG bd it c e ρ μ) Q:=by
 unfold mCompG
 rw [W_bind]
 refine W_mono hit fun r q=>?_
 obtain ⟨src,n,μ1⟩:=r
 obtain ⟨h1,h2,h3,h4,h5,h6,h7⟩:=q
 dsimp only at h1 h2 h3 h4 h5 h6 h7 ⊢
 subst h2
 rw [W_map]
 exact w_goCompT h1 h3 h4 h5 h6 h7
theorem w_mTrue {ρ:Rho}{μ:Hm}{Q:Bool×Hm->Prop}:W (mTrue ρ μ) Q↔Q (true,μ):=W_some
theorem w_mPut {o i v:ME}{ρ:Rho}{μ:Hm} {Q}:W (mPut o i v ρ μ) Q↔W (v ρ μ) fun p=>W (o ρ p.2) fun q=>W (i ρ q.2) fun r=>W (putM q.1 r.1 p.1 r.2) fun μ'=>Q (.nx,ρ,μ'):=by
 unfold mPut mPutG
 simp only [W_bind,W_map]
theorem w_iZip {ms:MA}{ρ:Rho}{μ:Hm}{Q:Src×Nat×Hm->Prop}(h:W (ms ρ μ) fun p=>∃ a b xs ys,p.1=[.loc a,.loc b]/\p.2[a]? = some (.lst xs)/\p.2[b]? = some (.lst ys)/\Q (srcZip (.loc a) (.loc b),min xs.length ys.length+1,p.2)):W (iZipD ms ρ μ) Q:=by
 unfold iZipD
 rw [W_bind]
 refine W_mono h fun p q=>?_
 obtain ⟨a,b,xs,ys,e,ha,hb,q⟩:=q
 rw [e]
 simp only [lstD,ha,hb,Option.bind_some,Option.map_some]
 exact W_some.mpr q
theorem w_tupL {μ:Hm}{a:Nat}{xs:List D}{Q:D×Hm->Prop}(h:μ[a]? = some (.lst xs)):W (tupleM [.loc a] μ) Q↔Q (.tup xs,μ):=by
 simp only [tupleM,seqD,h,Option.map_some]
 exact W_some
section
variable {μ:Hm}{a:Nat}{kvs:List (List Int×D)}{k:List Int}{d y:D}{ρ:Rho}{Q:D×Hm->Prop}
theorem w_mDNewT:W (mDNewT ρ μ) Q↔Q (.loc μ.length,μ++[.dT []]):=W_some
theorem w_itT (h:μ[a]? = some (.dT kvs))(hk:keyT y=some k)(hv:valDT kvs k=some d):W (itD (.loc a) y μ) Q↔Q (d,μ):=by
 simp only [itD,h,hk,Option.bind_some,hv,Option.map_some]
 exact W_some
theorem w_inT {neg:Bool}(h:μ[a]? = some (.dT kvs))(hk:keyT y=some k):W (inD neg y (.loc a) μ) Q↔Q (.bl (if neg then !(valDT kvs k).isSome else (valDT kvs k).isSome),μ):=by
 have:inD neg y (.loc a) μ=some (.bl (if neg then !(valDT kvs k).isSome else (valDT kvs k).isSome),μ):=by
  simp only [inD,h,hk,Option.map_some]
 rw [this]
 exact W_some
theorem w_putT {Q:Hm->Prop}(h:μ[a]? = some (.dT kvs))(hk:keyT y=some k)(hl:kvs.length<sizeLine):W (putM (.loc a) y d μ) Q↔Q (μ.set a (.dT (putDT kvs k d))):=by
 simp only [putM,putK2,h,hk,Option.bind_some,if_pos hl]
 exact W_some
theorem w_lenX (h:μ[a]? = some (.dT kvs)):W (lenA [.loc a] μ) Q↔Q (.int kvs.length,μ):=by
 simp only [lenA,h]
 exact W_some
theorem w_listX (h:μ[a]? = some (.dT kvs)):W (listA [.loc a] μ) Q↔Q (.loc μ.length,μ++[.lst (kvs.map fun k=>D.tup (k.1.map D.int))]):=by
 simp only [listA,h]
 exact W_some
end
theorem w_sortI {μ:Hm}{a:Nat}{is:List Int}{Q:D×Hm->Prop}(h:μ[a]? = some (.lst (is.map D.int)))(hl:is.length<64):W (sortedA [.loc a] μ) Q↔Q (.loc μ.length,μ++[.lst ((sortI is).map D.int)]):=by
 have:sortIM [.loc a] μ=some (.loc μ.length,μ++[.lst ((sortI is).map D.int)]):=by
  simp only [sortIM,lstD,h,Option.bind_some,intsD_map]
  rw [if_pos hl]
 simp only [sortedA,this]
 exact W_some
theorem w_itSt {z:Str}{i:Int}{c:Nat}{μ:Hm}{Q:D×Hm->Prop}(hz:z.length<=sizeLine)(h:atI z.cps.toList i=some c):W (itD (.str z) (.int i) μ) Q↔Q (.str ⟨#[c]⟩,μ):=by
 have:itD (.str z) (.int i) μ=some (.str ⟨#[c]⟩,μ):=by
  simp only [itD,ixD]
  rw [if_pos hz,h];rfl
 rw [this]
 exact W_some
theorem w_intB {μ:Hm}{b:Bool}{Q:D×Hm->Prop}:W (intM [.bl b] μ) Q↔Q (.int (if b then 1 else 0),μ):=by
 cases b<;>exact W_some
end L3
namespace Lw
open PySem L2 L3
noncomputable def ds:List (Str×Stmt):=(("is_whole",top 6)::("is_corner",top 7)::("is_edge",top 8)::("is_quarter",top 9)::("line_of",top 10)::("beside",top 11)::("edges_of",top 12)::("moved_by",top 13)::("edges_round",top 14)::("number_by",top 15)::("mirrored",top 16)::("is_within",top 18)::("places_within",top 19)::("quarters_in",top 20)::("corners_in",top 21)::("neighbours_in",top 22)::("marks_in",top 23)::("is_good",top 25)::("creases_at",top 27)::("gaps_at",top 28)::("barred",top 29)::("check_corners",top 30)::("laying_by",top 33)::("mirror_in",top 34)::("led",top 35)::("then",top 36)::("laid",top 38)::("_law_cell",top 40)::("_law_inner",top 41)::("_law_line",top 42)::("_law_beside",top 43)::("_law_quarters",top 44)::("_law_led",top 45)::("_law_over",top 46)::("_law_value",top 47)::("_law_grown",top 48)::("_law_by_lines",top 49)::("_law_creased",top 50)::("_law_sheet_by_digits",top 51)::("_law_sheet",top 52)::("_law_edges_of",top 53)::("_law_ahead",top 54)::("law",top 55)::[])
noncomputable def c_EIGHT_EDGES:D:=(.tup [(.tup [(.int 2),(.int 0)]),(.tup [(.int 1),(.int 1)]),(.tup [(.int 0),(.int 2)]),(.tup [(.int (-1)),(.int 1)]),(.tup [(.int (-2)),(.int 0)]),(.tup [(.int (-1)),(.int (-1))]),(.tup [(.int 0),(.int (-2))]),(.tup [(.int 1),(.int (-1))])])
noncomputable def c_FOUR_EDGES:D:=(.tup [(.tup [(.int 1),(.int 1)]),(.tup [(.int (-1)),(.int 1)]),(.tup [(.int (-1)),(.int (-1))]),(.tup [(.int 1),(.int (-1))])])
noncomputable def c_STILL:D:=(.tup [(.int 1),(.int 0),(.int 0),(.int 1),(.int 0),(.int 0)])
noncomputable def S:Sig:=⟨(("is_whole",1)::("is_corner",1)::("is_edge",1)::("is_quarter",1)::("line_of",1)::("beside",1)::("edges_of",1)::("moved_by",2)::("edges_round",1)::("number_by",2)::("mirrored",2)::("is_within",3)::("places_within",2)::("quarters_in",2)::("corners_in",2)::("neighbours_in",3)::("marks_in",1)::("is_good",1)::("creases_at",2)::("gaps_at",2)::("barred",1)::("check_corners",1)::("laying_by",3)::("mirror_in",1)::("led",2)::("then",2)::("laid",1)::("_law_cell",2)::("_law_inner",2)::("_law_line",1)::("_law_beside",1)::("_law_quarters",2)::("_law_led",2)::("_law_over",2)::("_law_value",2)::("_law_grown",3)::("_law_by_lines",2)::("_law_creased",4)::("_law_sheet_by_digits",3)::("_law_sheet",3)::("_law_edges_of",1)::("_law_ahead",2)::("law",1)::[]),[("EIGHT_EDGES",c_EIGHT_EDGES),("FOUR_EDGES",c_FOUR_EDGES),("STILL",c_STILL)],[],["all","bool","dict","enumerate","int","isinstance","len","list","range","sorted","sum","tuple","zip"]⟩
@[irreducible] noncomputable def f (k:Nat)(x:Str):MF:=fnM S ds k x
end Lw
namespace Lw
open PySem L2 L3
theorem ev_p_is_whole (k:Nat)(d0:D)(μ:Hm):f (k+1) "is_whole" [d0] μ=fin ((mRet (mAndV (mCall isInst (mCons (mVar 0) (mCons (mC (.ty "int")) mNil))) (mNotV (mCall isInst (mCons (mVar 0) (mCons (mC (.ty "bool")) mNil)))))) [some d0] μ):=by
 kernel_rfl
theorem ev_p_is_corner (k:Nat)(d0:D)(μ:Hm):f (k+1) "is_corner" [d0] μ=fin ((mRet (mAndV (mOp (eqM false) (mOp modD (mOp itD (mVar 0) (mC (.int 0))) (mC (.int 2))) (mC (.int 0))) (mOp (eqM false) (mOp modD (mOp itD (mVar 0) (mC (.int 0))) (mC (.int 4))) (mOp modD (mOp itD (mVar 0) (mC (.int 1))) (mC (.int 4)))))) [some d0] μ):=by
 kernel_rfl
theorem ev_p_is_edge (k:Nat)(d0:D)(μ:Hm):f (k+1) "is_edge" [d0] μ=fin ((mSeq (mIfS (mTest (mOp (eqM false) (mOp modD (mOp itD (mVar 0) (mC (.int 0))) (mC (.int 2))) (mC (.int 1)))) (mRet (mOp (eqM false) (mOp modD (mOp itD (mVar 0) (mC (.int 1))) (mC (.int 2))) (mC (.int 1)))) mNext) (mRet (mAndV (mOp (eqM false) (mOp modD (mOp itD (mVar 0) (mC (.int 1))) (mC (.int 2))) (mC (.int 0))) (mOp (eqM true) (mOp modD (mOp itD (mVar 0) (mC (.int 0))) (mC (.int 4))) (mOp modD (mOp itD (mVar 0) (mC (.int 1))) (mC (.int 4))))))) [some d0] μ):=by
 kernel_rfl
theorem ev_p_is_quarter (k:Nat)(d0:D)(μ:Hm):f (k+1) "is_quarter" [d0] μ=fin ((mSeq (mIfS (mTest (mOp (eqM false) (mOp modD (mOp itD (mVar 0) (mC (.int 0))) (mC (.int 2))) (mC (.int 1)))) (mRet (mOp (eqM false) (mOp modD (mOp itD (mVar 0) (mC (.int 1))) (mC (.int 4))) (mC (.int 2)))) mNext) (mRet (mAndV (mOp (eqM false) (mOp modD (mOp itD (mVar 0) (mC (.int 0))) (mC (.int 4))) (mC (.int 2))) (mOp (eqM false) (mOp modD (mOp itD (mVar 0) (mC (.int 1))) (mC (.int 2))) (mC (.int 1)))))) [some d0] μ):=by
 kernel_rfl
theorem ev_p_line_of (k:Nat)(d0:D)(μ:Hm):f (k+1) "line_of" [d0] μ=fin ((mSeq (mIfS (mTest (mOp (eqM false) (mOp modD (mOp itD (mVar 0) (mC (.int 0))) (mC (.int 2))) (mC (.int 1)))) (mRet (mIfE (mTest (mOp (eqM false) (mOp modD (mOp itD (mVar 0) (mC (.int 0))) (mC (.int 4))) (mOp modD (mOp itD (mVar 0) (mC (.int 1))) (mC (.int 4))))) (mC (.str "falling")) (mC (.str "rising")))) mNext) (mRet (mIfE (mTest (mOp (eqM false) (mOp modD (mOp itD (mVar 0) (mC (.int 1))) (mC (.int 4))) (mC (.int 0)))) (mC (.str "level")) (mC (.str "upright"))))) [some d0] μ):=by
 kernel_rfl
theorem ev_p_beside (k:Nat)(d0:D)(μ:Hm):f (k+1) "beside" [d0] μ=fin ((mSeq (mSet 1 (mOp itD (mVar 0) (mC (.int 0)))) (mSeq (mSet 2 (mOp itD (mVar 0) (mC (.int 1)))) (mRet (mLst (mCons (mTup (mCons (mOp subD (mVar 1) (mC (.int 1))) (mCons (mVar 2) mNil))) (mCons (mTup (mCons (mVar 1) (mCons (mOp subD (mVar 2) (mC (.int 1))) mNil))) (mCons (mTup (mCons (mVar 1) (mCons (mOp addD (mVar 2) (mC (.int 1))) mNil))) (mCons (mTup (mCons (mOp addD (mVar 1) (mC (.int 1))) (mCons (mVar 2) mNil))) mNil)))))))) [some d0,none,none] μ):=by
 kernel_rfl
theorem ev_p_edges_of (k:Nat)(d0:D)(μ:Hm):f (k+1) "edges_of" [d0] μ=fin ((mRet (mCompI (iSeqD (mCall (f k "beside") (mCons (mVar 0) mNil))) (mTru (mCall (f k "is_edge") (mCons (mVar 1) mNil))) (mVar 1))) [some d0] μ):=by
 kernel_rfl
theorem ev_p_moved_by (k:Nat)(d0 d1:D)(μ:Hm):f (k+1) "moved_by" [d0,d1] μ=fin ((mRet (mCompI (iSeqD (mVar 1)) mTrue (mTup (mCons (mOp addD (mOp itD (mVar 0) (mC (.int 0))) (mOp itD (mVar 2) (mC (.int 0)))) (mCons (mOp addD (mOp itD (mVar 0) (mC (.int 1))) (mOp itD (mVar 2) (mC (.int 1)))) mNil))))) [some d0,some d1] μ):=by
 kernel_rfl
theorem ev_p_edges_round (k:Nat)(d0:D)(μ:Hm):f (k+1) "edges_round" [d0] μ=fin ((mRet (mCall (f k "moved_by") (mCons (mVar 0) (mCons (mIfE (mTest (mOp (eqM false) (mOp modD (mOp itD (mVar 0) (mC (.int 0))) (mC (.int 4))) (mC (.int 0)))) (mC c_EIGHT_EDGES) (mC c_FOUR_EDGES)) mNil)))) [some d0] μ):=by
 kernel_rfl
theorem ev_p_number_by (k:Nat)(d0 d1:D)(μ:Hm):f (k+1) "number_by" [d0,d1] μ=fin ((mSeq (mIfS (mTest (mOp (eqM false) (mVar 0) (mC (.str "level")))) (mRet (mOp itD (mVar 1) (mC (.int 1)))) mNext) (mSeq (mIfS (mTest (mOp (eqM false) (mVar 0) (mC (.str "upright")))) (mRet (mOp itD (mVar 1) (mC (.int 0)))) mNext) (mSeq (mIfS (mTest (mOp (eqM false) (mVar 0) (mC (.str "falling")))) (mRet (mOp subD (mOp itD (mVar 1) (mC (.int 0))) (mOp itD (mVar 1) (mC (.int 1))))) mNext) (mRet (mOp addD (mOp itD (mVar 1) (mC (.int 0))) (mOp itD (mVar 1) (mC (.int 1)))))))) [some d0,some d1] μ):=by
 kernel_rfl
theorem ev_p_mirrored (k:Nat)(d0 d1:D)(μ:Hm):f (k+1) "mirrored" [d0,d1] μ=fin ((mSeq (mSet 2 (mOp itD (mVar 0) (mC (.int 0)))) (mSeq (mSet 3 (mOp itD (mVar 0) (mC (.int 1)))) (mSeq (mSet 4 (mCall (f k "line_of") (mCons (mVar 1) mNil))) (mSeq (mSet 5 (mCall (f k "number_by") (mCons (mVar 4) (mCons (mVar 1) mNil)))) (mSeq (mIfS (mTest (mOp (eqM false) (mVar 4) (mC (.str "level")))) (mRet (mTup (mCons (mVar 2) (mCons (mOp subD (mOp mulD (mC (.int 2)) (mVar 5)) (mVar 3)) mNil)))) mNext) (mSeq (mIfS (mTest (mOp (eqM false) (mVar 4) (mC (.str "upright")))) (mRet (mTup (mCons (mOp subD (mOp mulD (mC (.int 2)) (mVar 5)) (mVar 2)) (mCons (mVar 3) mNil)))) mNext) (mSeq (mIfS (mTest (mOp (eqM false) (mVar 4) (mC (.str "falling")))) (mRet (mTup (mCons (mOp addD (mVar 3) (mVar 5)) (mCons (mOp subD (mVar 2) (mVar 5)) mNil)))) mNext) (mRet (mTup (mCons (mOp subD (mVar 5) (mVar 3)) (mCons (mOp subD (mVar 5) (mVar 2)) mNil))))))))))) [some d0,some d1,none,none,none,none] μ):=by
 kernel_rfl
theorem ev_p_is_within (k:Nat)(d0 d1 d2:D)(μ:Hm):f (k+1) "is_within" [d0,d1,d2] μ=fin ((mRet (mAndV (mChain ltD ltD (mC (.int 0)) (mOp itD (mVar 2) (mC (.int 0))) (mOp mulD (mC (.int 4)) (mVar 0))) (mChain ltD ltD (mC (.int 0)) (mOp itD (mVar 2) (mC (.int 1))) (mOp mulD (mC (.int 4)) (mVar 1))))) [some d0,some d1,some d2] μ):=by
 kernel_rfl
theorem ev_p_places_within (k:Nat)(d0 d1:D)(μ:Hm):f (k+1) "places_within" [d0,d1] μ=fin ((mSeq (mSet 2 (mLst mNil)) (mSeq (mForI (iRng2D (mCons (mC (.int 1)) (mCons (mOp mulD (mC (.int 4)) (mVar 0)) mNil))) (gSet 3) (mDrop (mMeth extendM (mVar 2) (mCons (mCompI (iRng2D (mCons (mC (.int 1)) (mCons (mOp mulD (mC (.int 4)) (mVar 1)) mNil))) mTrue (mTup (mCons (mVar 3) (mCons (mVar 4) mNil)))) mNil)))) (mRet (mVar 2)))) [some d0,some d1,none,none] μ):=by
 kernel_rfl
theorem ev_p_quarters_in (k:Nat)(d0 d1:D)(μ:Hm):f (k+1) "quarters_in" [d0,d1] μ=fin ((mRet (mCompI (iSeqD (mCall (f k "places_within") (mCons (mVar 0) (mCons (mVar 1) mNil)))) (mTru (mCall (f k "is_quarter") (mCons (mVar 2) mNil))) (mVar 2))) [some d0,some d1] μ):=by
 kernel_rfl
theorem ev_p_corners_in (k:Nat)(d0 d1:D)(μ:Hm):f (k+1) "corners_in" [d0,d1] μ=fin ((mRet (mCompI (iSeqD (mCall (f k "places_within") (mCons (mVar 0) (mCons (mVar 1) mNil)))) (mTru (mCall (f k "is_corner") (mCons (mVar 2) mNil))) (mVar 2))) [some d0,some d1] μ):=by
 kernel_rfl
theorem ev_p_neighbours_in (k:Nat)(d0 d1 d2:D)(μ:Hm):f (k+1) "neighbours_in" [d0,d1,d2] μ=fin ((mRet (mCompI (iSeqD (mCall (f k "edges_of") (mCons (mVar 2) mNil))) (mTru (mCall (f k "is_within") (mCons (mVar 0) (mCons (mVar 1) (mCons (mVar 3) mNil))))) (mTup (mCons (mVar 3) (mCons (mCall (f k "mirrored") (mCons (mVar 2) (mCons (mVar 3) mNil))) mNil))))) [some d0,some d1,some d2] μ):=by
 kernel_rfl
theorem ev_p_marks_in (k:Nat)(d0:D)(μ:Hm):f (k+1) "marks_in" [d0] μ=fin ((mRet (mCall dictM (mCons (mOp itD (mVar 0) (mC (.int 2))) mNil))) [some d0] μ):=by
 kernel_rfl
theorem ev_p_is_good (k:Nat)(d0:D)(μ:Hm):f (k+1) "is_good" [d0] μ=fin ((mSeq (mIfS (mOrT (mTest (mOp gtD (mCall lenA (mCons (mVar 0) mNil)) (mC (.int 8)))) (mTest (mOp (eqM false) (mOp modD (mCall lenA (mCons (mVar 0) mNil)) (mC (.int 2))) (mC (.int 1))))) (mRet (mC (.bl false))) mNext) (mSeq (mIfS (mNotT (mTru (mCall allM (mCons (mCompI (iSeqD (mVar 0)) mTrue (mAndV (mCall (f k "is_whole") (mCons (mVar 1) mNil)) (mOp geD (mVar 1) (mC (.int 1))))) mNil)))) (mRet (mC (.bl false))) mNext) (mRet (mOp (eqM false) (mCall sumM (mCons (mSliceS (mVar 0) mNoPart mNoPart (mPart (mC (.int 2)))) mNil)) (mCall sumM (mCons (mSliceS (mVar 0) (mPart (mC (.int 1))) mNoPart (mPart (mC (.int 2)))) mNil)))))) [some d0] μ):=by
 kernel_rfl
theorem ev_p_creases_at (k:Nat)(d0 d1:D)(μ:Hm):f (k+1) "creases_at" [d0,d1] μ=fin ((mSeq (mSet 2 (mCall (f k "marks_in") (mCons (mVar 0) mNil))) (mRet (mCompI (iSeqD (mCall (f k "edges_round") (mCons (mVar 1) mNil))) (mTest (mOp (inD false) (mVar 3) (mVar 2))) (mVar 3)))) [some d0,some d1,none] μ):=by
 kernel_rfl
theorem ev_p_gaps_at (k:Nat)(d0 d1:D)(μ:Hm):f (k+1) "gaps_at" [d0,d1] μ=fin ((mSeq (mSet 2 (mCall (f k "edges_round") (mCons (mVar 1) mNil))) (mSeq (mSet 3 (mCall (f k "creases_at") (mCons (mVar 0) (mCons (mVar 1) mNil)))) (mSeq (mSet 4 (mCompI (iSeqD (mVar 3)) mTrue (mMeth indexM (mVar 2) (mCons (mVar 7) mNil)))) (mSeq (mSet 5 (mOp addD (mSlice (mVar 4) (mPart (mC (.int 1))) mNoPart) (mCompI (iSeqD (mSlice (mVar 4) mNoPart (mPart (mC (.int 1))))) mTrue (mOp addD (mVar 7) (mCall lenA (mCons (mVar 2) mNil)))))) (mSeq (mSet 6 (mOp fdivD (mC (.int 8)) (mCall lenA (mCons (mVar 2) mNil)))) (mRet (mCompG (bdTup 2) (iZipD (mCons (mVar 4) (mCons (mVar 5) mNil))) mTrue (mOp mulD (mOp subD (mVar 8) (mVar 7)) (mVar 6))))))))) [some d0,some d1,none,none,none,none,none] μ):=by
 kernel_rfl
theorem ev_p_barred (k:Nat)(d0:D)(μ:Hm):f (k+1) "barred" [d0] μ=fin ((mSeq (mForI (iSeqD (mCall (f k "corners_in") (mCons (mOp itD (mVar 0) (mC (.int 0))) (mCons (mOp itD (mVar 0) (mC (.int 1))) mNil)))) (gSet 1) (mIfS (mNotT (mTru (mCall (f k "is_good") (mCons (mCall (f k "gaps_at") (mCons (mVar 0) (mCons (mVar 1) mNil))) mNil)))) (mRet (mVar 1)) mNext)) (mRet (mC .non))) [some d0,none] μ):=by
 kernel_rfl
theorem ev_p_check_corners (k:Nat)(d0:D)(μ:Hm):f (k+1) "check_corners" [d0] μ=fin ((mSeq (mSet 1 (mCall (f k "barred") (mCons (mVar 0) mNil))) (mIfS (mTest (mOp (isM true) (mVar 1) (mC .non))) mBadS mNext)) [some d0,none] μ):=by
 kernel_rfl
theorem ev_p_laying_by (k:Nat)(d0 d1 d2:D)(μ:Hm):f (k+1) "laying_by" [d0,d1,d2] μ=fin ((mRet (mTup (mCons (mOp subD (mOp itD (mVar 1) (mC (.int 0))) (mOp itD (mVar 0) (mC (.int 0)))) (mCons (mOp subD (mOp itD (mVar 2) (mC (.int 0))) (mOp itD (mVar 0) (mC (.int 0)))) (mCons (mOp subD (mOp itD (mVar 1) (mC (.int 1))) (mOp itD (mVar 0) (mC (.int 1)))) (mCons (mOp subD (mOp itD (mVar 2) (mC (.int 1))) (mOp itD (mVar 0) (mC (.int 1)))) (mCons (mOp itD (mVar 0) (mC (.int 0))) (mCons (mOp itD (mVar 0) (mC (.int 1))) mNil)))))))) [some d0,some d1,some d2] μ):=by
 kernel_rfl
theorem ev_p_mirror_in (k:Nat)(d0:D)(μ:Hm):f (k+1) "mirror_in" [d0] μ=fin ((mRet (mCall (f k "laying_by") (mCons (mCall (f k "mirrored") (mCons (mTup (mCons (mC (.int 0)) (mCons (mC (.int 0)) mNil))) (mCons (mVar 0) mNil))) (mCons (mCall (f k "mirrored") (mCons (mTup (mCons (mC (.int 1)) (mCons (mC (.int 0)) mNil))) (mCons (mVar 0) mNil))) (mCons (mCall (f k "mirrored") (mCons (mTup (mCons (mC (.int 0)) (mCons (mC (.int 1)) mNil))) (mCons (mVar 0) mNil))) mNil))))) [some d0] μ):=by
 kernel_rfl
theorem ev_p_led (k:Nat)(d0 d1:D)(μ:Hm):f (k+1) "led" [d0,d1] μ=fin ((mSeq (mSet 2 (mOp itD (mVar 1) (mC (.int 0)))) (mSeq (mSet 3 (mOp itD (mVar 1) (mC (.int 1)))) (mRet (mTup (mCons (mOp addD (mOp addD (mOp mulD (mOp itD (mVar 0) (mC (.int 0))) (mVar 2)) (mOp mulD (mOp itD (mVar 0) (mC (.int 1))) (mVar 3))) (mOp itD (mVar 0) (mC (.int 4)))) (mCons (mOp addD (mOp addD (mOp mulD (mOp itD (mVar 0) (mC (.int 2))) (mVar 2)) (mOp mulD (mOp itD (mVar 0) (mC (.int 3))) (mVar 3))) (mOp itD (mVar 0) (mC (.int 5)))) mNil)))))) [some d0,some d1,none,none] μ):=by
 kernel_rfl
theorem ev_p_then (k:Nat)(d0 d1:D)(μ:Hm):f (k+1) "then" [d0,d1] μ=fin ((mRet (mCall (f k "laying_by") (mCons (mCall (f k "led") (mCons (mVar 1) (mCons (mCall (f k "led") (mCons (mVar 0) (mCons (mTup (mCons (mC (.int 0)) (mCons (mC (.int 0)) mNil))) mNil))) mNil))) (mCons (mCall (f k "led") (mCons (mVar 1) (mCons (mCall (f k "led") (mCons (mVar 0) (mCons (mTup (mCons (mC (.int 1)) (mCons (mC (.int 0)) mNil))) mNil))) mNil))) (mCons (mCall (f k "led") (mCons (mVar 1) (mCons (mCall (f k "led") (mCons (mVar 0) (mCons (mTup (mCons (mC (.int 0)) (mCons (mC (.int 1)) mNil))) mNil))) mNil))) mNil))))) [some d0,some d1] μ):=by
 kernel_rfl
theorem ev_p_laid (k:Nat)(d0:D)(μ:Hm):f (k+1) "laid" [d0] μ=fin ((mSeq (mDrop (mCall (f k "check_corners") (mCons (mVar 0) mNil))) (mSeq (mSet 1 (mCall (f k "marks_in") (mCons (mVar 0) mNil))) (mSeq (mSet 2 (mOp itD (mCall (f k "quarters_in") (mCons (mOp itD (mVar 0) (mC (.int 0))) (mCons (mOp itD (mVar 0) (mC (.int 1))) mNil))) (mC (.int 0)))) (mSeq (mSet 3 (mDisp1 (mVar 2) (mC c_STILL))) (mSeq (mSet 4 (mLst (mCons (mVar 2) mNil))) (mSeq (mWhile wFuel (mTru (mVar 4)) (mSeq (mSet 5 (mMeth popM (mVar 4) mNil)) (mForI (iSeqD (mCall (f k "neighbours_in") (mCons (mOp itD (mVar 0) (mC (.int 0))) (mCons (mOp itD (mVar 0) (mC (.int 1))) (mCons (mVar 5) mNil))))) (gTupD [6,7]) (mIfS (mTest (mOp (inD true) (mVar 7) (mVar 3))) (mSeq (mPut (mVar 3) (mVar 7) (mIfE (mTest (mOp (inD false) (mVar 6) (mVar 1))) (mCall (f k "then") (mCons (mCall (f k "mirror_in") (mCons (mVar 6) mNil)) (mCons (mOp itD (mVar 3) (mVar 5)) mNil))) (mOp itD (mVar 3) (mVar 5)))) (mDrop (mMeth appendM (mVar 4) (mCons (mVar 7) mNil)))) mNext)))) (mRet (mDSort (mVar 3))))))))) [some d0,none,none,none,none,none,none,none] μ):=by
 kernel_rfl
theorem ev_w_cell (k:Nat)(d0 d1:D)(μ:Hm):f (k+1) "_law_cell" [d0,d1] μ=fin ((mSeq (mIfS (mTest (mOp ltD (mVar 1) (mCall lenA (mCons (mVar 0) mNil)))) (mRet (mOp itD (mVar 0) (mVar 1))) mNext) (mSeq (mIfS (mTest (mOp (eqM false) (mVar 0) (mLst mNil))) (mRet (mOp modD (mOp mulD (mOp mulD (mVar 1) (mVar 1)) (mC (.int 48271))) (mC (.int 2147483647)))) mNext) (mSeq (mSet 2 (mOp modD (mOp mulD (mOp addD (mOp modD (mOp itD (mVar 0) (mOp modD (mVar 1) (mCall lenA (mCons (mVar 0) mNil)))) (mC (.int 2147483629))) (mOp mulD (mOp mulD (mVar 1) (mVar 1)) (mC (.int 69623)))) (mC (.int 48271))) (mC (.int 2147483647)))) (mRet (mOp modD (mOp mulD (mVar 2) (mVar 2)) (mC (.int 2147483629))))))) [some d0,some d1,none] μ):=by
 kernel_rfl
theorem ev_w_inner (k:Nat)(d0 d1:D)(μ:Hm):f (k+1) "_law_inner" [d0,d1] μ=fin ((mSeq (mSet 2 (mLst mNil)) (mSeq (mForI (iRng2D (mCons (mC (.int 1)) (mCons (mOp mulD (mC (.int 4)) (mVar 0)) mNil))) (gSet 3) (mForI (iRng2D (mCons (mC (.int 1)) (mCons (mOp mulD (mC (.int 4)) (mVar 1)) mNil))) (gSet 4) (mIfS (mOrT (mAndT (mTest (mOp (eqM false) (mOp modD (mVar 3) (mC (.int 2))) (mC (.int 1)))) (mTest (mOp (eqM false) (mOp modD (mVar 4) (mC (.int 2))) (mC (.int 1))))) (mAndT (mTest (mOp (eqM false) (mOp modD (mVar 3) (mC (.int 2))) (mC (.int 0)))) (mTest (mOp (eqM false) (mOp addD (mOp modD (mVar 3) (mC (.int 4))) (mOp modD (mVar 4) (mC (.int 4)))) (mC (.int 2)))))) (mDrop (mMeth appendM (mVar 2) (mCons (mTup (mCons (mVar 3) (mCons (mVar 4) mNil))) mNil))) mNext))) (mRet (mVar 2)))) [some d0,some d1,none,none,none] μ):=by
 kernel_rfl
theorem ev_w_line (k:Nat)(d0:D)(μ:Hm):f (k+1) "_law_line" [d0] μ=fin ((mSeq (mAsg (mVar 0) (gTupD [1,2])) (mSeq (mIfS (mTest (mOp (eqM false) (mOp modD (mVar 2) (mC (.int 4))) (mC (.int 0)))) (mRet (mTup (mCons (mC (.int 0)) (mCons (mVar 2) mNil)))) mNext) (mSeq (mIfS (mTest (mOp (eqM false) (mOp modD (mVar 1) (mC (.int 4))) (mC (.int 0)))) (mRet (mTup (mCons (mC (.int 1)) (mCons (mVar 1) mNil)))) mNext) (mSeq (mIfS (mTest (mOp (eqM false) (mOp modD (mVar 1) (mC (.int 4))) (mOp modD (mVar 2) (mC (.int 4))))) (mRet (mTup (mCons (mC (.int 2)) (mCons (mOp subD (mVar 1) (mVar 2)) mNil)))) mNext) (mRet (mTup (mCons (mC (.int 3)) (mCons (mOp addD (mVar 1) (mVar 2)) mNil)))))))) [some d0,none,none] μ):=by
 kernel_rfl
theorem ev_w_beside (k:Nat)(d0:D)(μ:Hm):f (k+1) "_law_beside" [d0] μ=fin ((mSeq (mAsg (mVar 0) (gTupD [1,2])) (mSeq (mIfS (mTest (mOp (eqM false) (mOp modD (mVar 2) (mC (.int 4))) (mC (.int 0)))) (mRet (mLst (mCons (mTup (mCons (mVar 1) (mCons (mOp subD (mVar 2) (mC (.int 1))) mNil))) (mCons (mTup (mCons (mVar 1) (mCons (mOp addD (mVar 2) (mC (.int 1))) mNil))) mNil)))) mNext) (mSeq (mIfS (mTest (mOp (eqM false) (mOp modD (mVar 1) (mC (.int 4))) (mC (.int 0)))) (mRet (mLst (mCons (mTup (mCons (mOp subD (mVar 1) (mC (.int 1))) (mCons (mVar 2) mNil))) (mCons (mTup (mCons (mOp addD (mVar 1) (mC (.int 1))) (mCons (mVar 2) mNil))) mNil)))) mNext) (mRet (mCall sortedA (mCons (mLst (mCons (mTup (mCons (mOp subD (mOp addD (mVar 1) (mC (.int 2))) (mOp modD (mVar 1) (mC (.int 4)))) (mCons (mVar 2) mNil))) (mCons (mTup (mCons (mVar 1) (mCons (mOp subD (mOp addD (mVar 2) (mC (.int 2))) (mOp modD (mVar 2) (mC (.int 4)))) mNil))) mNil))) mNil)))))) [some d0,none,none] μ):=by
 kernel_rfl
theorem ev_w_quarters (k:Nat)(d0 d1:D)(μ:Hm):f (k+1) "_law_quarters" [d0,d1] μ=fin ((mSeq (mSet 2 (mLst mNil)) (mSeq (mForI (iRng1D (mCons (mOp mulD (mC (.int 4)) (mVar 0)) mNil)) (gSet 3) (mForI (iRng1D (mCons (mOp mulD (mC (.int 4)) (mVar 1)) mNil)) (gSet 4) (mIfS (mOrT (mAndT (mTest (mOp (eqM false) (mOp modD (mVar 3) (mC (.int 4))) (mC (.int 2)))) (mTest (mOp (eqM false) (mOp modD (mVar 4) (mC (.int 2))) (mC (.int 1))))) (mAndT (mTest (mOp (eqM false) (mOp modD (mVar 3) (mC (.int 2))) (mC (.int 1)))) (mTest (mOp (eqM false) (mOp modD (mVar 4) (mC (.int 4))) (mC (.int 2)))))) (mDrop (mMeth appendM (mVar 2) (mCons (mTup (mCons (mVar 3) (mCons (mVar 4) mNil))) mNil))) mNext))) (mRet (mVar 2)))) [some d0,some d1,none,none,none] μ):=by
 kernel_rfl
theorem ev_w_led (k:Nat)(d0 d1:D)(μ:Hm):f (k+1) "_law_led" [d0,d1] μ=fin ((mSeq (mAsg (mVar 0) (gTupD [2,3,4,5,6,7])) (mRet (mTup (mCons (mOp addD (mOp addD (mOp mulD (mVar 2) (mOp itD (mVar 1) (mC (.int 0)))) (mOp mulD (mVar 3) (mOp itD (mVar 1) (mC (.int 1))))) (mVar 6)) (mCons (mOp addD (mOp addD (mOp mulD (mVar 4) (mOp itD (mVar 1) (mC (.int 0)))) (mOp mulD (mVar 5) (mOp itD (mVar 1) (mC (.int 1))))) (mVar 7)) mNil))))) [some d0,some d1,none,none,none,none,none,none] μ):=by
 kernel_rfl
theorem ev_w_over (k:Nat)(d0 d1:D)(μ:Hm):f (k+1) "_law_over" [d0,d1] μ=fin ((mSeq (mAsg (mVar 0) (gTupD [2,3,4,5,6,7])) (mSeq (mAsg (mVar 1) (gTupD [8,9])) (mSeq (mIfS (mTest (mOp (eqM false) (mVar 8) (mC (.int 0)))) (mRet (mTup (mCons (mVar 2) (mCons (mVar 3) (mCons (mNeg (mVar 4)) (mCons (mNeg (mVar 5)) (mCons (mVar 6) (mCons (mOp subD (mOp mulD (mC (.int 2)) (mVar 9)) (mVar 7)) mNil)))))))) mNext) (mSeq (mIfS (mTest (mOp (eqM false) (mVar 8) (mC (.int 1)))) (mRet (mTup (mCons (mNeg (mVar 2)) (mCons (mNeg (mVar 3)) (mCons (mVar 4) (mCons (mVar 5) (mCons (mOp subD (mOp mulD (mC (.int 2)) (mVar 9)) (mVar 6)) (mCons (mVar 7) mNil)))))))) mNext) (mSeq (mIfS (mTest (mOp (eqM false) (mVar 8) (mC (.int 2)))) (mRet (mTup (mCons (mVar 4) (mCons (mVar 5) (mCons (mVar 2) (mCons (mVar 3) (mCons (mOp addD (mVar 7) (mVar 9)) (mCons (mOp subD (mVar 6) (mVar 9)) mNil)))))))) mNext) (mRet (mTup (mCons (mNeg (mVar 4)) (mCons (mNeg (mVar 5)) (mCons (mNeg (mVar 2)) (mCons (mNeg (mVar 3)) (mCons (mOp subD (mVar 9) (mVar 7)) (mCons (mOp subD (mVar 9) (mVar 6)) mNil))))))))))))) [some d0,some d1,none,none,none,none,none,none,none,none] μ):=by
 kernel_rfl
theorem ev_w_value (k:Nat)(d0 d1:D)(μ:Hm):f (k+1) "_law_value" [d0,d1] μ=fin ((mRet (mOp itD (mLst (mCons (mOp itD (mVar 0) (mC (.int 1))) (mCons (mOp itD (mVar 0) (mC (.int 0))) (mCons (mOp subD (mOp itD (mVar 0) (mC (.int 0))) (mOp itD (mVar 0) (mC (.int 1)))) (mCons (mOp addD (mOp itD (mVar 0) (mC (.int 0))) (mOp itD (mVar 0) (mC (.int 1)))) mNil))))) (mVar 1))) [some d0,some d1] μ):=by
 kernel_rfl
theorem ev_w_grown (k:Nat)(d0 d1 d2:D)(μ:Hm):f (k+1) "_law_grown" [d0,d1,d2] μ=fin ((mSeq (mSet 3 mDNewT) (mSeq (mForI (iSeqD (mCall (f k "_law_quarters") (mCons (mVar 0) (mCons (mVar 1) mNil)))) (gSet 4) (mPut (mVar 3) (mVar 4) (mTup (mCons (mC (.int 1)) (mCons (mC (.int 0)) (mCons (mC (.int 0)) (mCons (mC (.int 1)) (mCons (mC (.int 0)) (mCons (mC (.int 0)) mNil))))))))) (mSeq (mForI (iSeqD (mVar 2)) (gSet 5) (mSeq (mSet 6 (mOp modD (mVar 5) (mC (.int 4)))) (mSeq (mSet 7 (mOp itD (mCall listA (mCons (mVar 3) mNil)) (mOp modD (mOp fdivD (mVar 5) (mC (.int 16))) (mCall lenA (mCons (mVar 3) mNil))))) (mSeq (mSet 8 (mOp addD (mOp mulD (mOp fdivD (mCall (f k "_law_value") (mCons (mCall (f k "_law_led") (mCons (mOp itD (mVar 3) (mVar 7)) (mCons (mVar 7) mNil))) (mCons (mVar 6) mNil))) (mC (.int 4))) (mC (.int 4))) (mOp mulD (mOp modD (mOp fdivD (mVar 5) (mC (.int 4))) (mC (.int 2))) (mC (.int 4))))) (mForI (iSeqD (mCall listA (mCons (mVar 3) mNil))) (gSet 4) (mSeq (mSet 9 (mOp gtD (mCall (f k "_law_value") (mCons (mCall (f k "_law_led") (mCons (mOp itD (mVar 3) (mVar 4)) (mCons (mVar 4) mNil))) (mCons (mVar 6) mNil))) (mVar 8))) (mIfS (mTest (mOp (eqM false) (mVar 9) (mOp (eqM false) (mOp modD (mOp fdivD (mVar 5) (mC (.int 8))) (mC (.int 2))) (mC (.int 1))))) (mPut (mVar 3) (mVar 4) (mCall (f k "_law_over") (mCons (mOp itD (mVar 3) (mVar 4)) (mCons (mTup (mCons (mVar 6) (mCons (mVar 8) mNil))) mNil)))) mNext))))))) (mRet (mVar 3))))) [some d0,some d1,some d2,none,none,none,none,none,none,none] μ):=by
 kernel_rfl
theorem ev_w_by_lines (k:Nat)(d0 d1:D)(μ:Hm):f (k+1) "_law_by_lines" [d0,d1] μ=fin ((mSeq (mSet 2 (mLst mNil)) (mSeq (mForI (iSeqD (mVar 0)) (gSet 3) (mSeq (mAsg (mCall (f k "_law_line") (mCons (mVar 3) mNil)) (gTupD [4,5])) (mIfS (mTest (mOp (eqM false) (mOp modD (mOp fdivD (mVar 1) (mOp addD (mOp addD (mOp mulD (mC (.int 5)) (mVar 4)) (mOp modD (mOp fdivD (mVar 5) (mC (.int 4))) (mC (.int 5)))) (mC (.int 2)))) (mOp itD (mLst (mCons (mC (.int 3)) (mCons (mC (.int 3)) (mCons (mC (.int 4)) (mCons (mC (.int 4)) mNil))))) (mVar 4))) (mC (.int 0)))) (mDrop (mMeth appendM (mVar 2) (mCons (mVar 3) mNil))) mNext))) (mRet (mVar 2)))) [some d0,some d1,none,none,none,none] μ):=by
 kernel_rfl
theorem ev_w_creased (k:Nat)(d0 d1 d2 d3:D)(μ:Hm):f (k+1) "_law_creased" [d0,d1,d2,d3] μ=fin ((mSeq (mSet 4 (mCall (f k "_law_inner") (mCons (mVar 1) (mCons (mVar 2) mNil)))) (mSeq (mSet 5 (mOp itD (mVar 3) (mOp modD (mCall (f k "_law_cell") (mCons (mVar 0) (mCons (mC (.int 1)) mNil))) (mCall lenA (mCons (mVar 3) mNil))))) (mSeq (mSet 6 (mCall (f k "_law_cell") (mCons (mVar 0) (mCons (mC (.int 2)) mNil)))) (mSeq (mIfS (mTest (mOp (eqM false) (mVar 5) (mC (.int 3)))) (mRet (mCall (f k "_law_by_lines") (mCons (mVar 4) (mCons (mVar 6) mNil)))) mNext) (mSeq (mIfS (mTest (mOp (eqM false) (mVar 5) (mC (.int 4)))) (mSeq (mSet 7 (mLst mNil)) (mSeq (mForI (iEnumD (mCons (mVar 4) mNil)) (gTupD [8,9]) (mSeq (mSet 10 (mOp addD (mOp mulD (mVar 6) (mOp addD (mOp mulD (mC (.int 2)) (mVar 8)) (mC (.int 1)))) (mOp mulD (mCall (f k "_law_cell") (mCons (mVar 0) (mCons (mOp addD (mC (.int 3)) (mOp modD (mVar 8) (mC (.int 5)))) mNil))) (mOp addD (mOp mulD (mVar 8) (mVar 8)) (mC (.int 5)))))) (mIfS (mTest (mOp ltD (mOp modD (mOp modD (mVar 10) (mC (.int 10007))) (mC (.int 7))) (mOp modD (mOp fdivD (mCall (f k "_law_cell") (mCons (mVar 0) (mCons (mC (.int 1)) mNil))) (mC (.int 5))) (mC (.int 8))))) (mDrop (mMeth appendM (mVar 7) (mCons (mVar 9) mNil))) mNext))) (mRet (mVar 7)))) mNext) (mSeq (mSet 11 (mCall (f k "_law_grown") (mCons (mVar 1) (mCons (mVar 2) (mCons (mCompI (iRng1D (mCons (mOp modD (mVar 6) (mC (.int 6))) mNil)) mTrue (mCall (f k "_law_cell") (mCons (mVar 0) (mCons (mOp addD (mC (.int 3)) (mVar 15)) mNil)))) mNil))))) (mSeq (mSet 12 (mLst mNil)) (mSeq (mForI (iSeqD (mVar 4)) (gSet 9) (mSeq (mAsg (mCall (f k "_law_beside") (mCons (mVar 9) mNil)) (gTupD [13,14])) (mIfS (mTest (mOp (eqM true) (mOp itD (mVar 11) (mVar 13)) (mOp itD (mVar 11) (mVar 14)))) (mDrop (mMeth appendM (mVar 12) (mCons (mVar 9) mNil))) mNext))) (mSeq (mIfS (mAndT (mTest (mOp (eqM false) (mVar 5) (mC (.int 1)))) (mTest (mOp (eqM true) (mVar 4) (mLst mNil)))) (mSeq (mSet 9 (mOp itD (mVar 4) (mOp modD (mOp fdivD (mVar 6) (mC (.int 6))) (mCall lenA (mCons (mVar 4) mNil))))) (mSet 12 (mCall sortedA (mCons (mOp addD (mCompI (iSeqD (mVar 12)) (mTest (mOp (eqM true) (mVar 15) (mVar 9))) (mVar 15)) (mOp mulD (mLst (mCons (mVar 9) mNil)) (mCall intM (mCons (mOp (inD true) (mVar 9) (mVar 12)) mNil)))) mNil)))) mNext) (mRet (mVar 12))))))))))) [some d0,some d1,some d2,some d3,none,none,none,none,none,none,none,none,none,none,none] μ):=by
 kernel_rfl
theorem ev_w_sheet_by_digits (k:Nat)(d0 d1 d2:D)(μ:Hm):f (k+1) "_law_sheet_by_digits" [d0,d1,d2] μ=fin ((mSeq (mSet 3 (mCall (f k "_law_cell") (mCons (mVar 0) (mCons (mC (.int 61)) mNil)))) (mSeq (mSet 4 (mLst mNil)) (mSeq (mForI (iSeqD (mCall (f k "_law_inner") (mCons (mVar 1) (mCons (mVar 2) mNil)))) (gSet 5) (mSeq (mIfS (mTest (mOp gtD (mOp modD (mVar 3) (mC (.int 4))) (mC (.int 0)))) (mDrop (mMeth appendM (mVar 4) (mCons (mTup (mCons (mVar 5) (mCons (mOp itD (mC (.str "hvo")) (mOp subD (mOp modD (mVar 3) (mC (.int 4))) (mC (.int 1)))) mNil))) mNil))) mNext) (mSet 3 (mOp fdivD (mVar 3) (mC (.int 4)))))) (mRet (mTup (mCons (mVar 1) (mCons (mVar 2) (mCons (mCall tupleM (mCons (mVar 4) mNil)) mNil)))))))) [some d0,some d1,some d2,none,none,none] μ):=by
 kernel_rfl
theorem ev_w_sheet (k:Nat)(d0 d1 d2:D)(μ:Hm):f (k+1) "_law_sheet" [d0,d1,d2] μ=fin ((mSeq (mSet 3 (mOp addD (mC (.int 1)) (mOp modD (mCall (f k "_law_cell") (mCons (mVar 0) (mCons (mC (.int 0)) mNil))) (mVar 1)))) (mSeq (mSet 4 (mOp addD (mC (.int 1)) (mOp modD (mOp fdivD (mCall (f k "_law_cell") (mCons (mVar 0) (mCons (mC (.int 0)) mNil))) (mVar 1)) (mVar 1)))) (mSeq (mIfS (mTest (mOp (eqM false) (mOp modD (mCall (f k "_law_cell") (mCons (mVar 0) (mCons (mC (.int 60)) mNil))) (mC (.int 4))) (mC (.int 1)))) (mRet (mCall (f k "_law_sheet_by_digits") (mCons (mVar 0) (mCons (mVar 3) (mCons (mVar 4) mNil))))) mNext) (mSeq (mSet 5 (mLst mNil)) (mSeq (mForI (iEnumD (mCons (mCall (f k "_law_creased") (mCons (mVar 0) (mCons (mVar 3) (mCons (mVar 4) (mCons (mVar 2) mNil))))) mNil)) (gTupD [6,7]) (mSeq (mSet 8 (mOp addD (mOp mulD (mCall (f k "_law_cell") (mCons (mVar 0) (mCons (mOp addD (mC (.int 9)) (mOp modD (mVar 6) (mC (.int 9)))) mNil))) (mOp addD (mOp mulD (mC (.int 2)) (mVar 6)) (mC (.int 3)))) (mOp mulD (mVar 6) (mVar 6)))) (mDrop (mMeth appendM (mVar 5) (mCons (mTup (mCons (mVar 7) (mCons (mOp itD (mC (.str "hvo")) (mOp modD (mOp modD (mVar 8) (mC (.int 10007))) (mC (.int 3)))) mNil))) mNil))))) (mRet (mTup (mCons (mVar 3) (mCons (mVar 4) (mCons (mCall tupleM (mCons (mVar 5) mNil)) mNil)))))))))) [some d0,some d1,some d2,none,none,none,none,none,none] μ):=by
 kernel_rfl
theorem ev_w_edges_of (k:Nat)(d0:D)(μ:Hm):f (k+1) "_law_edges_of" [d0] μ=fin ((mSeq (mAsg (mVar 0) (gTupD [1,2])) (mSeq (mIfS (mTest (mOp (eqM false) (mOp modD (mVar 1) (mC (.int 4))) (mC (.int 2)))) (mRet (mLst (mCons (mTup (mCons (mOp subD (mVar 1) (mC (.int 1))) (mCons (mVar 2) mNil))) (mCons (mTup (mCons (mOp addD (mVar 1) (mC (.int 1))) (mCons (mVar 2) mNil))) (mCons (mTup (mCons (mVar 1) (mCons (mOp subD (mOp addD (mVar 2) (mOp modD (mVar 2) (mC (.int 4)))) (mC (.int 2))) mNil))) mNil))))) mNext) (mRet (mLst (mCons (mTup (mCons (mVar 1) (mCons (mOp subD (mVar 2) (mC (.int 1))) mNil))) (mCons (mTup (mCons (mVar 1) (mCons (mOp addD (mVar 2) (mC (.int 1))) mNil))) (mCons (mTup (mCons (mOp subD (mOp addD (mVar 1) (mOp modD (mVar 1) (mC (.int 4)))) (mC (.int 2))) (mCons (mVar 2) mNil))) mNil))))))) [some d0,none,none] μ):=by
 kernel_rfl
theorem ev_w_ahead (k:Nat)(d0 d1:D)(μ:Hm):f (k+1) "_law_ahead" [d0,d1] μ=fin ((mSeq (mAsg (mVar 0) (gTupD [2,3,4,5,6,7])) (mSeq (mAsg (mVar 1) (gTupD [8,9])) (mSeq (mIfS (mTest (mOp (eqM false) (mVar 8) (mC (.int 0)))) (mRet (mTup (mCons (mVar 2) (mCons (mNeg (mVar 3)) (mCons (mVar 4) (mCons (mNeg (mVar 5)) (mCons (mOp addD (mVar 6) (mOp mulD (mOp mulD (mC (.int 2)) (mVar 9)) (mVar 3))) (mCons (mOp addD (mVar 7) (mOp mulD (mOp mulD (mC (.int 2)) (mVar 9)) (mVar 5))) mNil)))))))) mNext) (mSeq (mIfS (mTest (mOp (eqM false) (mVar 8) (mC (.int 1)))) (mRet (mTup (mCons (mNeg (mVar 2)) (mCons (mVar 3) (mCons (mNeg (mVar 4)) (mCons (mVar 5) (mCons (mOp addD (mVar 6) (mOp mulD (mOp mulD (mC (.int 2)) (mVar 9)) (mVar 2))) (mCons (mOp addD (mVar 7) (mOp mulD (mOp mulD (mC (.int 2)) (mVar 9)) (mVar 4))) mNil)))))))) mNext) (mSeq (mIfS (mTest (mOp (eqM false) (mVar 8) (mC (.int 2)))) (mRet (mTup (mCons (mVar 3) (mCons (mVar 2) (mCons (mVar 5) (mCons (mVar 4) (mCons (mOp addD (mVar 6) (mOp mulD (mVar 9) (mOp subD (mVar 2) (mVar 3)))) (mCons (mOp addD (mVar 7) (mOp mulD (mVar 9) (mOp subD (mVar 4) (mVar 5)))) mNil)))))))) mNext) (mRet (mTup (mCons (mNeg (mVar 3)) (mCons (mNeg (mVar 2)) (mCons (mNeg (mVar 5)) (mCons (mNeg (mVar 4)) (mCons (mOp addD (mVar 6) (mOp mulD (mVar 9) (mOp addD (mVar 2) (mVar 3)))) (mCons (mOp addD (mVar 7) (mOp mulD (mVar 9) (mOp addD (mVar 4) (mVar 5)))) mNil))))))))))))) [some d0,some d1,none,none,none,none,none,none,none,none] μ):=by
 kernel_rfl
theorem ev_p_law (k:Nat)(d0:D)(μ:Hm):f (k+1) "law" [d0] μ=fin ((mSeq (mSet 1 (mCall (f k "_law_sheet") (mCons (mVar 0) (mCons (mC (.int 3)) (mCons (mLst (mCons (mC (.int 0)) (mCons (mC (.int 0)) (mCons (mC (.int 0)) (mCons (mC (.int 3)) mNil))))) mNil))))) (mSeq (mIfS (mTest (mOp (isM true) (mCall (f k "barred") (mCons (mVar 1) mNil)) (mC .non))) (mRet (mC (.bl true))) mNext) (mSeq (mSet 2 (mCall (f k "laid") (mCons (mVar 1) mNil))) (mSeq (mSet 3 (mCall (f k "_law_inner") (mCons (mOp itD (mVar 1) (mC (.int 0))) (mCons (mOp itD (mVar 1) (mC (.int 1))) mNil)))) (mSeq (mSet 5 (mCompG (bdTup 2) (iSeqD (mOp itD (mVar 1) (mC (.int 2)))) mTrue (mVar 11))) (mSeq (mSet 6 (mOp itD (mCall (f k "_law_quarters") (mCons (mOp itD (mVar 1) (mC (.int 0))) (mCons (mOp itD (mVar 1) (mC (.int 1))) mNil))) (mC (.int 0)))) (mSeq (mSet 7 (mTup (mCons (mC (.int 1)) (mCons (mC (.int 0)) (mCons (mC (.int 0)) (mCons (mC (.int 1)) (mCons (mC (.int 0)) (mCons (mC (.int 0)) mNil)))))))) (mSeq (mForI (iSeqD (mOp addD (mVar 0) (mLst (mCons (mC (.int 0)) mNil)))) (gSet 8) (mSeq (mSet 4 (mOp itD (mCall (f k "_law_edges_of") (mCons (mVar 6) mNil)) (mOp modD (mVar 8) (mC (.int 3))))) (mSeq (mIfS (mTest (mOp (inD false) (mVar 4) (mVar 3))) (mSeq (mAsg (mCall (f k "_law_beside") (mCons (mVar 4) mNil)) (gTupD [9,10])) (mSeq (mIfS (mTest (mOp (eqM false) (mVar 9) (mVar 6))) (mSet 6 (mVar 10)) (mSet 6 (mVar 9))) (mIfS (mTest (mOp (inD false) (mVar 4) (mVar 5))) (mSet 7 (mCall (f k "_law_ahead") (mCons (mVar 7) (mCons (mCall (f k "_law_line") (mCons (mVar 4) mNil)) mNil)))) mNext))) mNext) (mIfS (mTest (mOp (eqM true) (mOp itD (mVar 2) (mVar 6)) (mVar 7))) (mRet (mC (.bl false))) mNext)))) (mRet (mC (.bl true))))))))))) [some d0,none,none,none,none,none,none,none,none,none,none] μ):=by
 kernel_rfl
end Lw
namespace Lw
open PySem L2 L3
theorem w_mul2 {z:Int}{μ:Hm}{Q:D×Hm->Prop}:W (mulD (.int 2) (.int z) μ) Q↔Q (.int (2 * z),μ):=w_mulI (.inl ⟨by decide,by decide⟩)
theorem w_mul4 {z:Int}{μ:Hm}{Q:D×Hm->Prop}:W (mulD (.int 4) (.int z) μ) Q↔Q (.int (4 * z),μ):=w_mulI (.inl ⟨by decide,by decide⟩)
theorem w_mod2 {z:Int}{μ:Hm}{Q:D×Hm->Prop}:W (modD (.int z) (.int 2) μ) Q↔Q (.int (z % 2),μ):=w_modI (by decide)
theorem w_mod4 {z:Int}{μ:Hm}{Q:D×Hm->Prop}:W (modD (.int z) (.int 4) μ) Q↔Q (.int (z % 4),μ):=w_modI (by decide)
theorem w_mod6 {z:Int}{μ:Hm}{Q:D×Hm->Prop}:W (modD (.int z) (.int 6) μ) Q↔Q (.int (z % 6),μ):=w_modI (by decide)
theorem line2:(2:Nat)<=sizeLine:=by decide
theorem len2 {a b:D}:([a,b]:List D).length<=sizeLine:=line2
theorem w_mod5 {z:Int}{μ:Hm}{Q:D×Hm->Prop}:W (modD (.int z) (.int 5) μ) Q↔Q (.int (z % 5),μ):=w_modI (by decide)
theorem w_mod9 {z:Int}{μ:Hm}{Q:D×Hm->Prop}:W (modD (.int z) (.int 9) μ) Q↔Q (.int (z % 9),μ):=w_modI (by decide)
noncomputable def unI:D->Int
 | .int i=>i
 | _=>0
theorem mem_rng {lo:Int}{n:Nat}{d:D}(h:d∈rngD lo n):∃ j:Nat,j<n/\d=.int (lo+(j:Int)):=by
 unfold rngD at h
 obtain ⟨j,h1,rfl⟩:=List.mem_map.mp h
 exact ⟨j,List.mem_range.mp h1,rfl⟩
noncomputable def lineS (x y:Int):Str:=if x % 2=1 then (if x % 4=y % 4 then "falling" else "rising") else if y % 4=0 then "level" else "upright"
theorem s_line_of (k:Nat)(x y:Int)(μ:Hm)(Q:D×Hm->Prop):W (f (k+1) "line_of" [P x y] μ) Q↔Q (.str (lineS x y),μ):=by
 rw [ev_p_line_of,W_fin]
 simp only [w_mSeq,w_mRet,w_mNext,w_mIfS,w_mIfE,w_mOp,w_mC,w_mVar0,w_mTest,w_it20,w_it21,w_eqI,w_modI (show (0:Int)<2 by decide),w_modI (show (0:Int)<4 by decide)]
 unfold lineS
 split<;>split<;>simp_all
theorem str_lines:(("level":Str) == "level")=true/\(("upright":Str) == "level")=false/\(("upright":Str) == "upright")=true/\(("falling":Str) == "level")=false/\(("falling":Str) == "upright")=false/\(("falling":Str) == "falling")=true /\
 (("rising":Str) == "level")=false/\(("rising":Str) == "upright")=false/\(("rising":Str) == "falling")=false:=by decide +kernel
noncomputable def numL (x y:Int)(a b:Int):Int:=if x % 2=1 then (if x % 4=y % 4 then a - b else a+b) else if y % 4=0 then b else a
theorem s_number_by (k:Nat)(x y a b:Int)(μ:Hm)(Q:D×Hm->Prop):W (f (k+1) "number_by" [.str (lineS x y),P a b] μ) Q↔Q (.int (numL x y a b),μ):=by
 obtain ⟨s1,s2,s3,s4,s5,s6,s7,s8,s9⟩:=str_lines
 rw [ev_p_number_by,W_fin]
 simp only [w_mSeq,w_mRet,w_mNext,w_mIfS,w_mIfE,w_mOp,w_mC,w_mVar0,w_mVarS,w_mTest,w_it20,w_it21,w_eqS,w_subI,w_addI]
 unfold lineS numL
 split<;>split<;>simp [s1,s2,s3,s4,s5,s6,s7,s8,s9]
noncomputable def mirr (p e:Int×Int):Int×Int:=
 if e.1 % 2=1 then (if e.1 % 4=e.2 % 4 then (p.2+(e.1 - e.2),p.1 - (e.1 - e.2)) else (e.1+e.2 - p.2,e.1+e.2 - p.1)) else if e.2 % 4=0 then (p.1,2 * e.2 - p.2) else (2 * e.1 - p.1,p.2)
theorem s_mirrored (k:Nat)(x y a b:Int)(μ:Hm)(Q:D×Hm->Prop):W (f (k+2) "mirrored" [P x y,P a b] μ) Q↔Q (PP (mirr (x,y) (a,b)),μ):=by
 obtain ⟨s1,s2,s3,s4,s5,s6,s7,s8,s9⟩:=str_lines
 rw [ev_p_mirrored,W_fin]
 simp only [w_mSeq,w_mRet,w_mNext,w_mIfS,w_mIfE,w_mSet,w_mCall,w_mCons,w_mNil,w_mTup,w_mOp,w_mC,w_mVar0,w_mVarS,w_mTest,w_it20,w_it21,w_eqS,w_subI,w_addI,s_line_of,s_number_by,List.set_cons_zero,List.set_cons_succ,w_mul2,len2,true_and]
 unfold mirr numL lineS
 split<;>split<;>simp [s1,s2,s3,s4,s5,s6,s7,s8,s9]
theorem mirr_twice (p:Int×Int)(a b:Int):mirr (mirr p (a,b)) (a,b)=p:=by
 obtain ⟨x,y⟩:=p
 unfold mirr
 dsimp only
 split<;>split<;>(refine Prod.ext ?_ ?_<;>dsimp only<;>omega)
noncomputable def unP:D->Int×Int
 | .tup [.int x,.int y]=>(x,y)
 | _=>(0,0)
theorem filter_PP (p:Int×Int->Bool)(l:List (Int×Int)):((l.map PP).filter fun d=>p (unP d)).map (fun d=>d)=(l.filter p).map PP:=by
 rw [List.map_id']
 induction l with
 | nil=>rfl
 | cons a l ih=>
  have e:(List.map PP (a::l)).filter (fun d=>p (unP d))=if p a then PP a::(l.map PP).filter (fun d=>p (unP d)) else (l.map PP).filter fun d=>p (unP d):=by
   rw [List.map_cons,List.filter_cons];rfl
  rw [e,ih,List.filter_cons]
  split<;>rfl
theorem mem_PP {d:D}{l:List (Int×Int)}(h:d∈l.map PP):∃ x y,d=P x y:=by
 obtain ⟨p,_,rfl⟩:=List.mem_map.mp h
 exact ⟨p.1,p.2,rfl⟩
theorem ix_ok {n:Nat}{i:Int}(h0:0<=i)(h:i<n):ixN n i=some i.toNat:=by
 unfold ixN;rw [if_pos h0,if_pos h]
theorem at_ok {gs:List Int}{i:Int}(h0:0<=i)(h:i<gs.length):atI (gs.map D.int) i=some (.int (gs.getD i.toNat 0)):=by
 unfold atI
 rw [Zl,ix_ok h0 h,Option.bind_some,List.getElem?_map]
 have hi:i.toNat<gs.length:=by omega
 simp [List.getD,hi]
theorem w_itR {xs:List D}{i:Int}{d:D}{μ:Hm}{Q:D×Hm->Prop}(h:atI xs i=some d):W (itD (.rol xs) (.int i) μ) Q↔Q (d,μ):=by
 have:itD (.rol xs) (.int i) μ=some (d,μ):=by
  simp only [itD,ixD,seqD,Option.bind_some,h,Option.map_some]
 rw [this]
 exact W_some
noncomputable def altSum:List Int->Int
 | []=>0
 | g::r=>g - altSum r
noncomputable def goodB (gs:List Int):Bool:=decide (gs.length<=8)&&decide (gs.length % 2=0)&&gs.all (fun g=>decide (1<=g))&&altSum gs == 0
theorem s_is_whole (k:Nat)(i:Int)(μ:Hm)(Q:D×Hm->Prop):W (f (k+1) "is_whole" [.int i] μ) Q↔Q (.bl true,μ):=by
 rw [ev_p_is_whole,W_fin]
 simp only [w_mRet,w_mAndV,w_mNotV,w_mCall,w_mCons,w_mNil,w_mVar0,w_mC,w_instIB,w_instII]
 simp
theorem pick_even:∀ gs:List Int,gs.length<=8->gs.length % 2=0->∃ es os:List Int,pickS (gs.map D.int) none none (some 2)=es.map D.int/\pickS (gs.map D.int) (some 1) none (some 2)=os.map D.int/\es.sum - os.sum=altSum gs/\es.length<=8/\os.length<=8
 | [],_,_=>⟨[],[],rfl,rfl,rfl,by decide,by decide⟩
 | [_],_,h=>by simp at h
 | [a,b],_,_=>⟨[a],[b],by kernel_rfl,by kernel_rfl,by simp [altSum]<;>omega,by simp,by simp⟩
 | [_,_,_],_,h=>by simp at h
 | [a,b,c,d],_,_=>⟨[a,c],[b,d],by kernel_rfl,by kernel_rfl,by simp [altSum]<;>omega,by simp,by simp⟩
 | [_,_,_,_,_],_,h=>by simp at h
 | [a,b,c,d,e,g],_,_=>⟨[a,c,e],[b,d,g],by kernel_rfl,by kernel_rfl,by simp [altSum]<;>omega,by simp,by simp⟩
 | [_,_,_,_,_,_,_],_,h=>by simp at h
 | [a,b,c,d,e,g,x,y],_,_=>⟨[a,c,e,x],[b,d,g,y],by kernel_rfl,by kernel_rfl,by simp [altSum]<;>omega,by simp,by simp⟩
 | _::_::_::_::_::_::_::_::_::_,h,_=>absurd h (by simp)
theorem mem_ints {d:D}{gs:List Int}(h:d∈gs.map D.int):∃ g∈gs,d=.int g:=by
 obtain ⟨g,h1,rfl⟩:=List.mem_map.mp h
 exact ⟨g,h1,rfl⟩
theorem filter_all {α:Type}(l:List α):l.filter (fun _=>true)=l:=by simp
theorem s_is_good (k:Nat)(a:Nat)(gs:List Int)(hz:gs.length<=1000)(μ:Hm)(Q:D×Hm->Prop)(ha:μ[a]? = some (.lst (gs.map D.int)))(H:∀ μ',μ <+: μ'->Q (.bl (goodB gs),μ')):W (f (k+2) "is_good" [.loc a] μ) Q:=by
 rw [ev_p_is_good,W_fin]
 simp only [w_mSeq,w_mIfS,w_mOrT,w_mTest,w_mOp,w_mCall,w_mCons,w_mNil,w_mVar0,w_mC]
 refine (w_lenL ha).mpr ?_
 simp only [w_gtI,Zl]
 by_cases h8:(8:Int)<gs.length
 ·have e:goodB gs=false:=by
   unfold goodB;rw [decide_eq_false (show ¬ gs.length<=8 by omega)];rfl
  simp only [h8,decide_true,if_true,w_mRet,w_mC]
  rw [<- e]
  exact H _ (List.prefix_refl _)
 ·simp only [h8,decide_false,Bool.false_eq_true,if_false]
  refine (w_lenL ha).mpr ?_
  simp only [w_mod2,w_eqI,Zl]
  by_cases ho:(gs.length:Int) % 2=1
  ·have e:goodB gs=false:=by
    unfold goodB;rw [decide_eq_false (show ¬ gs.length % 2=0 by omega)];simp
   simp only [ho,beq_self_eq_true,if_true,w_mRet,w_mC]
   rw [<- e]
   exact H _ (List.prefix_refl _)
  ·have e1:((gs.length:Int) % 2 == 1)=false:=by simpa using ho
   simp only [e1,Bool.false_eq_true,if_false,w_mNext,w_mNotT,w_mTru,w_mCall,w_mCons,w_mNil]
   refine w_comp (xs:=gs.map D.int) (p:=fun _=>true) (v:=fun d=>.bl (decide (1<=unI d))) ?_
   simp only [w_iSeq,w_mVar0]
   refine (w_seqL ha).mpr ?_
   refine ⟨src_loc ha,rfl,by rw [Zl,sizeLine_eq];omega,fun d μ' hd hp=>w_mTrue.mpr ⟨rfl,List.prefix_refl _⟩,fun d μ' hd _ hp=>?_,fun μ1 hp1 hg1=>?_⟩
   ·obtain ⟨g,_,rfl⟩:=mem_ints hd
    simp only [List.cons_append,List.nil_append,w_mAndV,w_mCall,w_mCons,w_mNil,w_mVar0,w_mVarS,s_is_whole,if_true,w_mOp,w_mC,w_geI]
    exact ⟨rfl,List.prefix_refl _⟩
   ·have hg1':μ1[μ.length]? = some (.lst ((gs.map fun g=>decide (1<=g)).map D.bl)):=by
     rw [hg1,filter_all,List.map_map,List.map_map]
     rfl
    refine (w_all hg1').mpr ?_
    have hall:(gs.map fun g=>decide (1<=g)).all id=gs.all fun g=>decide (1<=g):=by
     rw [List.all_map];rfl
    rw [hall]
    simp only [w_truB]
    cases hb:gs.all fun g=>decide (1<=g) with
    | false=>
     have e:goodB gs=false:=by
      unfold goodB;rw [hb];simp
     simp only [Bool.not_false,if_true,w_mRet,w_mC]
     rw [<- e]
     exact H _ hp1
    | true=>
     simp only [Bool.not_true,Bool.false_eq_true,if_false,w_mNext,w_mRet,w_mOp,w_mCall,w_mCons,w_mNil]
     obtain ⟨es,os,he,ho',hs,l1,l2⟩:=pick_even gs (by omega) (by omega)
     have ha1:=pre_get hp1 ha
     refine w_sliceSL ?_
     simp only [w_mVar0]
     refine ⟨a,rfl,?_⟩
     simp only [w_mNoPart,w_mPart,w_mC]
     refine ⟨by decide,_,ha1,?_,?_⟩
     ·rw [he,Zl,sizeLine_eq];omega
     rw [he]
     refine (w_sum (get_last _ _)).mpr ?_
     refine w_sliceSL ?_
     simp only [w_mVar0]
     refine ⟨a,rfl,?_⟩
     simp only [w_mNoPart,w_mPart,w_mC]
     refine ⟨by decide,_,pre_get (pre_snoc _ _) ha1,?_,?_⟩
     ·rw [ho',Zl,sizeLine_eq];omega
     rw [ho']
     refine (w_sum (get_last _ _)).mpr ?_
     refine (w_eqI).mpr ?_
     have e:goodB gs=(es.sum == os.sum):=by
      unfold goodB
      rw [hb,decide_eq_true (show gs.length<=8 by omega),decide_eq_true (show gs.length % 2=0 by omega)]
      simp only [Bool.true_and]
      rw [Bool.eq_iff_iff,beq_iff_eq,beq_iff_eq]
      omega
     rw [<- e]
     exact H _ (hp1.trans ((pre_snoc _ _).trans (pre_snoc _ _)))
noncomputable def rowZ (h:Int)(x:Int):List (Int×Int):=(List.range (4 * h - 1).toNat).map fun (j:Nat)=>(x,1+(j:Int))
noncomputable def rowsZ (h:Int)(n:Nat):List (Int×Int):=(List.range n).flatMap fun (i:Nat)=>rowZ h (1+(i:Int))
noncomputable def placesZ (w h:Int):List (Int×Int):=rowsZ h (4 * w - 1).toNat
theorem rowsZ_succ (h:Int)(n:Nat):rowsZ h (n+1)=rowsZ h n++rowZ h (1+(n:Int)):=by
 unfold rowsZ;rw [List.range_succ,List.flatMap_append];simp
theorem rowZ_len (h x:Int):(rowZ h x).length=(4 * h - 1).toNat:=by unfold rowZ;simp
theorem rowsZ_len (h:Int):∀ n:Nat,(rowsZ h n).length=n * (4 * h - 1).toNat
 | 0=>by simp [rowsZ]
 | n+1=>by rw [rowsZ_succ,List.length_append,rowsZ_len h n,rowZ_len,Nat.succ_mul]
theorem len23 {h:Int}(hh:h<=6){n:Nat}(hn:n<=23):n * (4 * h - 1).toNat<=529:=by
 have:n * (4 * h - 1).toNat<=23 * 23:=Nat.mul_le_mul hn (by omega)
 omega
theorem row_is (h x:Int):((rngD 1 (4 * h - 1).toNat).filter fun _=>true).map (fun d=>P x (unI d))=(rowZ h x).map PP:=by
 unfold rngD rowZ
 rw [show ∀ l:List D,l.filter (fun _=>true)=l from fun l=>by simp,List.map_map,List.map_map]
 rfl
theorem s_places_within (k:Nat)(w h:Int)(hw:1<=w/\w<=6)(hh:1<=h/\h<=6)(μ:Hm)(Q:D×Hm->Prop)(H:∀ a μ',μ <+: μ'->μ'[a]? = some (.lst ((placesZ w h).map PP))->μ.length<=a->Q (.loc a,μ')):W (f (k+1) "places_within" [.int w,.int h] μ) Q:=by
 rw [ev_p_places_within,W_fin]
 simp only [w_mSeq,w_mSet,w_mLst,w_mNil]
 refine ⟨Nat.zero_le _,?_⟩
 simp only [List.set_cons_zero,List.set_cons_succ,w_mForI,w_iRng2,w_mCons,w_mNil,w_mC,w_mOp,w_mVar0,w_mVarS,w_mul4]
 refine ⟨by omega,?_⟩
 refine w_forR (lo:=1) (fun i ρ μ'=>μ <+: μ'/\μ'[μ.length]? = some (.lst ((rowsZ h i).map PP))/\∃ o,ρ=[some (.int w),some (.int h),some (.loc μ.length),o]) ⟨pre_snoc _ _,get_last _ _,none,rfl⟩ ?_ ?_
 ·rintro i ρ μ1 hi ⟨hp,hg,o,rfl⟩
  refine ⟨_,rfl,?_⟩
  simp only [List.set_cons_zero,List.set_cons_succ,w_mDrop]
  refine w_mMeth ?_
  simp only [w_mVar0,w_mVarS]
  refine ⟨isLst_loc hg,?_⟩
  simp only [w_mCons,w_mNil]
  refine w_comp (xs:=rngD 1 (4 * h - 1).toNat) (p:=fun _=>true) (v:=fun d=>P (1+(i:Int)) (unI d)) ?_
  simp only [w_iRng2,w_mCons,w_mNil,w_mC,w_mOp,w_mVar0,w_mVarS,w_mul4]
  refine ⟨by omega,src_rng,by simp [rngD],by rw [sizeLine_eq];simp [rngD];omega,?_,?_,?_⟩
  ·intro d μ' hd hp
   exact w_mTrue.mpr ⟨rfl,List.prefix_refl _⟩
  ·intro d μ' hd _ hp
   obtain ⟨j,hj,rfl⟩:=mem_rng hd
   simp only [List.cons_append,List.nil_append,w_mTup,w_mCons,w_mNil,w_mVar0,w_mVarS,len2,true_and]
   exact ⟨rfl,List.prefix_refl _⟩
  ·intro μ2 hp2 hg2
   rw [row_is] at hg2
   have hlen:((rowsZ h i).map PP).length+((rowZ h (1+(i:Int))).map PP).length<=sizeLine:=by
    have h1:=len23 (h:=h) hh.2 (n:=i+1) (by omega)
    rw [Nat.succ_mul] at h1
    rw [Zl,Zl,rowsZ_len,rowZ_len,sizeLine_eq]
    omega
   refine (w_extend (pre_get hp2 hg) hg2 hlen).mpr ?_
   refine ⟨pre_set (hp.trans hp2) (Nat.le_refl _) _,?_,_,rfl⟩
   rw [List.getElem?_set_self (Zg.mp (pre_get hp2 hg)).1,rowsZ_succ,List.map_append]
 ·rintro ρ μ1 ⟨hp,hg,o,rfl⟩
  simp only [w_mRet,w_mVar0,w_mVarS]
  exact H _ _ hp hg (Nat.le_refl _)
theorem places_len {w h:Int}(hw:w<=6)(hh:h<=6):(placesZ w h).length<=529:=by
 unfold placesZ
 rw [rowsZ_len]
 exact len23 hh (by omega)
noncomputable def mv (x y:Int)(l:List (Int×Int)):List (Int×Int):=l.map fun s=>(x+s.1,y+s.2)
theorem s_moved (k:Nat)(x y:Int)(l:List (Int×Int))(hl:l.length<=63)(μ:Hm)(Q:D×Hm->Prop)(h:∀ a μ',μ <+: μ'->μ'[a]? = some (.lst ((mv x y l).map PP))->μ.length<=a->Q (.loc a,μ')):W (f (k+1) "moved_by" [P x y,.tup (l.map PP)] μ) Q:=by
 rw [ev_p_moved_by,W_fin]
 simp only [w_mRet]
 refine w_comp (xs:=l.map PP) (p:=fun _=>true) (v:=fun d=>PP (x+(unP d).1,y+(unP d).2)) ?_
 simp only [w_iSeq,w_mVar0,w_mVarS]
 refine w_seqT.mpr ?_
 refine ⟨src_tup,rfl,by rw [Zl,sizeLine_eq];omega,fun d μ' hd hp=>W_some.mpr ⟨rfl,List.prefix_refl _⟩,fun d μ' hd _ hp=>?_,fun μ' hp hg=>?_⟩
 ·obtain ⟨u,v,rfl⟩:=mem_PP hd
  simp only [List.cons_append,List.nil_append,w_mTup,w_mOp,w_mC,w_mCons,w_mNil,w_mVar0,w_mVarS,w_it20,w_it21,w_addI,len2,true_and]
  exact ⟨rfl,List.prefix_refl _⟩
 ·refine h _ _ hp ?_ (Nat.le_refl _)
  rw [hg,List.filter_eq_self.mpr (fun _ _=>rfl),List.map_map]
  unfold mv
  rw [List.map_map]
  rfl
noncomputable def E8:List (Int×Int):=[(2,0),(1,1),(0,2),(-1,1),(-2,0),(-1,-1),(0,-2),(1,-1)]
noncomputable def F4:List (Int×Int):=[(1,1),(-1,1),(-1,-1),(1,-1)]
noncomputable def eOf (x:Int):List (Int×Int):=if x % 4=0 then E8 else F4
theorem s_edges_round (k:Nat)(x y:Int)(μ:Hm)(Q:D×Hm->Prop)(h:∀ a μ',μ <+: μ'->μ'[a]? = some (.lst ((mv x y (eOf x)).map PP))->μ.length<=a->Q (.loc a,μ')):W (f (k+2) "edges_round" [P x y] μ) Q:=by
 rw [ev_p_edges_round,W_fin]
 simp only [w_mRet,w_mCall,w_mCons,w_mNil,w_mVar0,w_mIfE,w_mTest,w_mOp,w_mC,w_it20,w_mod4,w_eqI]
 unfold eOf at h
 by_cases e:x % 4=0
 ·rw [if_pos e] at h
  rw [e]
  exact s_moved k x y E8 (by decide) μ _ h
 ·rw [if_neg e] at h
  rw [if_neg (by simpa using e)]
  exact s_moved k x y F4 (by decide) μ _ h
theorem mem_PPs (μ:Hm)(q:Int×Int):∀ ps:List (Int×Int),memEq μ (PP q) (ps.map PP)=some (ps.any fun p=>p == q)
 | []=>rfl
 | p::ps=>by
  rw [List.map_cons]
  show (eqD 8 μ (PP p) (PP q)).bind (fun b=>(memEq μ (PP q) (ps.map PP)).map fun c=>b||c)=_
  rw [eq_PP 6,mem_PPs μ q ps]
  rfl
theorem w_eqR0 {μ:Hm}{b:Nat}{ns:List Int}{Q:D×Hm->Prop}(hb:μ[b]? = some (.lst [])):W (eqM false (.rol (ns.map D.int)) (.loc b) μ) Q↔Q (.bl (ns == []),μ):=by
 have h1:kindD μ (.rol (ns.map D.int))=some (.lst (ns.map D.int)):=rfl
 have h2:kindD μ (.loc b)=some (.lst (([]:List Int).map D.int)):=by simp only [kindD,hb];rfl
 have:eqD 8 μ (.rol (ns.map D.int)) (.loc b)=some (ns == []):=by
  show (kindD μ (.rol (ns.map D.int))).bind (fun x=>(kindD μ (.loc b)).bind fun y=>eqKd (eqD 7 μ) x y)=_
  rw [h1,h2]
  exact eqs_ints 6 μ ns []
 unfold eqM
 rw [this]
 exact W_some
noncomputable def cellV (ns:List Int)(i:Int):Int:=if i<ns.length then ns.getD i.toNat 0 else if ns=[] then i * i * 48271 % 2147483647 else
 ((ns.getD (i % ns.length).toNat 0 % 2147483629+i * i * 69623) * 48271 % 2147483647) * ((ns.getD (i % ns.length).toNat 0 % 2147483629+i * i * 69623) * 48271 % 2147483647) % 2147483629
theorem sq_small {i:Int}(hi:0<=i/\i<=100):0<=i * i/\i * i<=10000:=by
 refine ⟨Int.mul_nonneg hi.1 hi.1,?_⟩
 have:=Int.mul_le_mul hi.2 hi.2 hi.1 (by decide)
 omega
theorem s_cell (k:Nat)(ns:List Int)(i:Int)(hi:0<=i/\i<=100)(μ:Hm)(Q:D×Hm->Prop)(H:∀ μ',μ <+: μ'->Q (.int (cellV ns i),μ')):W (f (k+1) "_law_cell" [.rol (ns.map D.int),.int i] μ) Q:=by
 rw [ev_w_cell,W_fin]
 have hs:=sq_small hi
 simp only [w_mSeq,w_mIfS,w_mTest,w_mOp,w_mCall,w_mCons,w_mNil,w_mVar0,w_mVarS,w_mC,w_lenR,w_ltI,Zl]
 by_cases h:i<ns.length
 ·simp only [h,decide_true,if_true,w_mRet,w_mOp,w_mVar0,w_mVarS]
  rw [w_itR (at_ok hi.1 h)]
  have e:cellV ns i=ns.getD i.toNat 0:=by unfold cellV;rw [if_pos h]
  rw [<- e]
  exact H _ (List.prefix_refl _)
 ·simp only [h,decide_false,Bool.false_eq_true,if_false,w_mNext,w_mSeq,w_mIfS,w_mTest,w_mOp,w_mVar0,w_mLst,w_mNil]
  refine ⟨Nat.zero_le _,?_⟩
  refine (w_eqR0 (get_last _ _)).mpr ?_
  by_cases h0:ns=[]
  ·have e:(ns == [])=true:=by rw [h0];rfl
   simp only [e,if_true,w_mRet,w_mOp,w_mVar0,w_mVarS,w_mC]
   refine (w_mulI (.inl (by omega))).mpr ((w_mulI (.inr (by omega))).mpr ((w_modI (by decide)).mpr ?_))
   have e:cellV ns i=i * i * 48271 % 2147483647:=by unfold cellV;rw [if_neg h,if_pos h0]
   rw [<- e]
   exact H _ (pre_snoc _ _)
  ·have e:(ns == [])=false:=by
    cases ns with
    | nil=>exact absurd rfl h0
    | cons=>rfl
   have hl:0<ns.length:=List.length_pos_iff.mpr h0
   simp only [e,Bool.false_eq_true,if_false,w_mNext,w_mSeq,w_mSet,w_mRet,w_mOp,w_mVar0,w_mVarS,w_mC,w_mCall,w_mCons,w_mNil,w_lenR,Zl]
   refine (w_modI (by omega)).mpr ?_
   have hm:0<=i % (ns.length:Int)/\i % (ns.length:Int)<ns.length:=⟨Int.emod_nonneg _ (by omega),Int.emod_lt_of_pos _ (by omega)⟩
   rw [w_itR (at_ok hm.1 hm.2)]
   have e:cellV ns i=((ns.getD (i % ns.length).toNat 0 % 2147483629+i * i * 69623) * 48271 % 2147483647) * ((ns.getD (i % ns.length).toNat 0 % 2147483629+i * i * 69623) * 48271 % 2147483647) % 2147483629:=by
    unfold cellV;rw [if_neg h,if_neg h0]
   refine (w_modI (by decide)).mpr ((w_mulI (.inl (by omega))).mpr ((w_mulI (.inr (by omega))).mpr ?_))
   simp only [w_addI]
   refine (w_mulI (.inr (by omega))).mpr ((w_modI (by decide)).mpr ?_)
   simp only [List.set_cons_zero,List.set_cons_succ,w_mVar0,w_mVarS]
   generalize hy:(ns.getD (i % ns.length).toNat 0 % 2147483629+i * i * 69623) * 48271 % 2147483647=y at e
   have hy1:0<=y/\y<2147483647:=by
    rw [<- hy];exact ⟨Int.emod_nonneg _ (by decide),Int.emod_lt_of_pos _ (by decide)⟩
   refine (w_mulI (.inl (by omega))).mpr ((w_modI (by decide)).mpr ?_)
   rw [<- e]
   exact H _ (pre_snoc _ _)
noncomputable def gridL (lo:Int)(n m:Nat):List (Int×Int):=(List.range n).flatMap fun (i:Nat)=>(List.range m).map fun (j:Nat)=>(lo+(i:Int),lo+(j:Int))
noncomputable def rowL (lo x:Int)(m:Nat):List (Int×Int):=(List.range m).map fun (j:Nat)=>(x,lo+(j:Int))
theorem gridL_succ (lo:Int)(n m:Nat):gridL lo (n+1) m=gridL lo n m++rowL lo (lo+(n:Int)) m:=by
 unfold gridL rowL;rw [List.range_succ,List.flatMap_append];simp
theorem rowL_succ (lo x:Int)(m:Nat):rowL lo x (m+1)=rowL lo x m++[(x,lo+(m:Int))]:=by
 unfold rowL;rw [List.range_succ,List.map_append];rfl
theorem rowL_len (lo x:Int)(m:Nat):(rowL lo x m).length=m:=by unfold rowL;simp
theorem gridL_len (lo:Int)(m:Nat):∀ n:Nat,(gridL lo n m).length=n * m
 | 0=>by simp [gridL]
 | n+1=>by rw [gridL_succ,List.length_append,gridL_len lo m n,rowL_len,Nat.succ_mul]
theorem set_two {μ:Hm}{a:Nat}{c c':C}:(μ.set a c).set a c'=μ.set a c':=List.set_set ..
theorem set_get {μ:Hm}{a:Nat}{c c':C}(h:μ[a]? = some c):(μ.set a c')[a]? = some c':=by
 rw [List.getElem?_set_self (Zg.mp h).1]
theorem set_last (μ:Hm)(c c':C):(μ++[c]).set μ.length c'=μ++[c']:=by
 rw [List.set_append_right _ _ (Nat.le_refl _)];simp
theorem set_same {μ:Hm}{a:Nat}{c:C}(h:μ[a]? = some c):μ.set a c=μ:=by
 obtain ⟨hl,rfl⟩:=Zg.mp h
 exact List.set_getElem_self hl
noncomputable abbrev appP:MS:=mDrop (mMeth appendM (mVar 2) (mCons (mTup (mCons (mVar 3) (mCons (mVar 4) mNil))) mNil))
theorem grid_row (T:MT)(pr:Int->Int->Bool)(d0 d1:D)(a:Nat)(x:Int)(hT:∀ y μ Q,W (T [some d0,some d1,some (.loc a),some (.int x),some (.int y)] μ) Q↔Q (pr x y,μ))(lo:Int)(m:Nat)(ps:List (Int×Int))(hl:ps.length+m<=1000)(μ:Hm)(ha:μ[a]? = some (.lst (ps.map PP)))(o:Option D)(Q:Fl×Rho×Hm->Prop)
  (stop:∀ o,Q (.nx,[some d0,some d1,some (.loc a),some (.int x),o],μ.set a (.lst ((ps++(rowL lo x m).filter fun p=>pr p.1 p.2).map PP)))):W (goFor (srcRng lo m) (gSet 4) (mIfS T appP mNext) (m+1) 0 [some d0,some d1,some (.loc a),some (.int x),o] μ) Q:=by
 refine w_forR (fun i ρ μ'=>i<=m/\μ'=μ.set a (.lst ((ps++(rowL lo x i).filter fun p=>pr p.1 p.2).map PP))/\∃ o,ρ=[some d0,some d1,some (.loc a),some (.int x),o]) ⟨Nat.zero_le _,?_,o,rfl⟩ ?_ ?_
 ·simp only [rowL,List.range_zero,List.map_nil,List.filter_nil,List.append_nil]
  exact (set_same ha).symm
 ·rintro i ρ μ1 hi ⟨_,rfl,o,rfl⟩
  refine ⟨_,rfl,?_⟩
  simp only [List.set_cons_zero,List.set_cons_succ,w_mIfS]
  rw [hT]
  cases hb:pr x (lo+(i:Int)) with
  | false=>
   simp only [Bool.false_eq_true,if_false,w_mNext]
   refine ⟨hi,?_,_,rfl⟩
   rw [rowL_succ,List.filter_append]
   simp [hb]
  | true=>
   simp only [if_true,w_mDrop]
   refine w_mMeth ?_
   simp only [w_mVar0,w_mVarS]
   refine ⟨isLst_loc (set_get ha),?_⟩
   simp only [w_mCons,w_mNil,w_mTup,w_mVar0,w_mVarS,len2,true_and]
   refine (w_append (set_get ha) ?_).mpr ?_
   ·have:=List.length_filter_le (fun p=>pr p.1 p.2) (rowL lo x i)
    rw [rowL_len] at this
    rw [Zl,List.length_append,sizeLine_eq]
    omega
   refine ⟨hi,?_,_,rfl⟩
   rw [set_two,rowL_succ,List.filter_append]
   simp [hb,PP,P]
 ·rintro ρ μ1 ⟨_,rfl,o,rfl⟩
  exact stop o
theorem grid_all (T:MT)(pr:Int->Int->Bool)(d0 d1:D)(a:Nat)(it:MI)(lo:Int)(m:Nat)(hit:∀ o1 o2 μ Q,W (it [some d0,some d1,some (.loc a),o1,o2] μ) Q↔Q (srcRng lo m,m+1,μ))(hT:∀ x y μ Q,W (T [some d0,some d1,some (.loc a),some (.int x),some (.int y)] μ) Q↔Q (pr x y,μ))(n:Nat)(hl:n * m+m<=900)(μ:Hm)(ha:μ[a]? = some (.lst []))(Q:Fl×Rho×Hm->Prop)
  (stop:∀ o1 o2,Q (.nx,[some d0,some d1,some (.loc a),o1,o2],μ.set a (.lst (((gridL lo n m).filter fun p=>pr p.1 p.2).map PP)))):W (goFor (srcRng lo n) (gSet 3) (mForI it (gSet 4) (mIfS T appP mNext)) (n+1) 0 [some d0,some d1,some (.loc a),none,none] μ) Q:=by
 refine w_forR (fun i ρ μ'=>i<=n/\μ'=μ.set a (.lst (((gridL lo i m).filter fun p=>pr p.1 p.2).map PP))/\∃ o1 o2,ρ=[some d0,some d1,some (.loc a),o1,o2]) ⟨Nat.zero_le _,?_,none,none,rfl⟩ ?_ ?_
 ·simp only [gridL,List.range_zero,List.flatMap_nil,List.filter_nil,List.map_nil]
  exact (set_same ha).symm
 ·rintro i ρ μ1 hi ⟨_,rfl,o1,o2,rfl⟩
  refine ⟨_,rfl,?_⟩
  simp only [List.set_cons_zero,List.set_cons_succ,w_mForI]
  rw [hit]
  refine grid_row T pr d0 d1 a _ (hT _) lo m _ ?_ _ (set_get ha) _ _ fun o=>?_
  ·have h1:=List.length_filter_le (fun p=>pr p.1 p.2) (gridL lo i m)
   rw [gridL_len] at h1
   have h2:i * m<=n * m:=Nat.mul_le_mul_right _ (Nat.le_of_lt hi)
   omega
  ·refine ⟨hi,?_,_,_,rfl⟩
   rw [set_two,gridL_succ,List.filter_append]
 ·rintro ρ μ1 ⟨_,rfl,o1,o2,rfl⟩
  exact stop o1 o2
noncomputable def inE (x y:Int):Bool:=(x % 2 == 1&&y % 2 == 1)||(x % 2 == 0&&x % 4+y % 4 == 2)
noncomputable def inQ (x y:Int):Bool:=(x % 4 == 2&&y % 2 == 1)||(x % 2 == 1&&y % 4 == 2)
noncomputable def innerZ (w h:Int):List (Int×Int):=(gridL 1 (4 * w - 1).toNat (4 * h - 1).toNat).filter fun p=>inE p.1 p.2
noncomputable def quartZ (w h:Int):List (Int×Int):=(gridL 0 (4 * w).toNat (4 * h).toNat).filter fun p=>inQ p.1 p.2
theorem le900 {w h:Int}(hw:1<=w/\w<=3)(hh:1<=h/\h<=3):(4 * w).toNat * (4 * h).toNat+(4 * h).toNat<=900/\(4 * w - 1).toNat * (4 * h - 1).toNat+(4 * h - 1).toNat<=900:=by
 have h1:(4 * w).toNat<=12:=by omega
 have h2:(4 * h).toNat<=12:=by omega
 have h3:=Nat.mul_le_mul h1 h2
 have h4:(4 * w - 1).toNat * (4 * h - 1).toNat<=12 * 12:=Nat.mul_le_mul (by omega) (by omega)
 omega
theorem s_inner (k:Nat)(w h:Int)(hw:1<=w/\w<=3)(hh:1<=h/\h<=3)(μ:Hm)(Q:D×Hm->Prop)(H:Q (.loc μ.length,μ++[.lst ((innerZ w h).map PP)])):W (f (k+1) "_law_inner" [.int w,.int h] μ) Q:=by
 rw [ev_w_inner,W_fin]
 simp only [w_mSeq,w_mSet,w_mLst,w_mNil]
 refine ⟨Nat.zero_le _,?_⟩
 simp only [List.set_cons_zero,List.set_cons_succ,w_mForI,w_iRng2,w_mCons,w_mNil,w_mC,w_mOp,w_mVar0,w_mVarS,w_mul4]
 refine ⟨by omega,?_⟩
 refine grid_all _ inE _ _ _ _ 1 (4 * h - 1).toNat (fun o1 o2 μ Q=>?_) (fun x y μ Q=>?_) (4 * w - 1).toNat (le900 hw hh).2 _ (get_last _ _) _ fun o1 o2=>?_
 ·simp only [w_iRng2,w_mCons,w_mNil,w_mC,w_mOp,w_mVar0,w_mVarS,w_mul4]
  exact and_iff_right (by omega)
 ·simp only [w_mOrT,w_mAndT,w_mTest,w_mOp,w_mVar0,w_mVarS,w_mC,w_mod2,w_mod4,w_eqI,w_addI]
  unfold inE
  cases x % 2 == 1<;>cases y % 2 == 1<;>cases x % 2 == 0<;>cases x % 4+y % 4 == 2<;>simp
 ·simp only [w_mRet,w_mVar0,w_mVarS]
  rw [set_last]
  exact H
theorem s_quarters (k:Nat)(w h:Int)(hw:1<=w/\w<=3)(hh:1<=h/\h<=3)(μ:Hm)(Q:D×Hm->Prop)(H:Q (.loc μ.length,μ++[.lst ((quartZ w h).map PP)])):W (f (k+1) "_law_quarters" [.int w,.int h] μ) Q:=by
 rw [ev_w_quarters,W_fin]
 simp only [w_mSeq,w_mSet,w_mLst,w_mNil]
 refine ⟨Nat.zero_le _,?_⟩
 simp only [List.set_cons_zero,List.set_cons_succ,w_mForI]
 rw [w_iRng1 (j:=0)]
 simp only [w_mCons,w_mNil,w_mC,w_mOp,w_mVar0,w_mVarS,w_mul4]
 refine ⟨by omega,?_⟩
 refine grid_all _ inQ _ _ _ _ 0 (4 * h).toNat (fun o1 o2 μ Q=>?_) (fun x y μ Q=>?_) (4 * w).toNat (le900 hw hh).1 _ (get_last _ _) _ fun o1 o2=>?_
 ·rw [w_iRng1 (j:=0)]
  simp only [w_mCons,w_mNil,w_mC,w_mOp,w_mVar0,w_mVarS,w_mul4]
  exact and_iff_right (by omega)
 ·simp only [w_mOrT,w_mAndT,w_mTest,w_mOp,w_mVar0,w_mVarS,w_mC,w_mod2,w_mod4,w_eqI,w_addI]
  unfold inQ
  cases x % 4 == 2<;>cases y % 2 == 1<;>cases x % 2 == 1<;>cases y % 4 == 2<;>simp
 ·simp only [w_mRet,w_mVar0,w_mVarS]
  rw [set_last]
  exact H
theorem len6:(6:Nat)<=sizeLine:=by decide
theorem w_gTup6 {ρ:Rho}{i1 i2 i3 i4 i5 i6:Nat}{a b c d e g:D}{μ:Hm}{Q:Rho->Prop}:W (gTupD [i1,i2,i3,i4,i5,i6] (.tup [a,b,c,d,e,g]) ρ μ) Q↔Q ((((((ρ.set i1 (some a)).set i2 (some b)).set i3 (some c)).set i4 (some d)).set i5 (some e)).set i6 (some g)):=W_some
noncomputable def lineZ (x y:Int):Int×Int:=if y % 4=0 then (0,y) else if x % 4=0 then (1,x) else if x % 4=y % 4 then (2,x - y) else (3,x+y)
theorem s_line (k:Nat)(x y:Int)(μ:Hm)(Q:D×Hm->Prop):W (f (k+1) "_law_line" [P x y] μ) Q↔Q (PP (lineZ x y),μ):=by
 rw [ev_w_line,W_fin]
 simp only [w_mSeq,w_mAsg,w_mVar0,w_gTup2,List.set_cons_zero,List.set_cons_succ,w_mIfS,w_mTest,w_mOp,w_mVarS,w_mC,w_mod4,w_eqI]
 unfold lineZ
 by_cases h1:y % 4=0
 ·simp only [h1,beq_self_eq_true,if_true,w_mRet,w_mTup,w_mCons,w_mNil,w_mC,w_mVar0,w_mVarS,len2,true_and]
 ·have e1:(y % 4 == 0)=false:=by simpa using h1
  simp only [h1,e1,Bool.false_eq_true,if_false,w_mNext,w_mSeq,w_mIfS,w_mTest,w_mOp,w_mVar0,w_mVarS,w_mC,w_mod4,w_eqI]
  by_cases h2:x % 4=0
  ·simp only [h2,beq_self_eq_true,if_true,w_mRet,w_mTup,w_mCons,w_mNil,w_mC,w_mVar0,w_mVarS,len2,true_and]
  ·have e2:(x % 4 == 0)=false:=by simpa using h2
   simp only [h2,e2,Bool.false_eq_true,if_false,w_mNext,w_mSeq,w_mIfS,w_mTest,w_mOp,w_mVar0,w_mVarS,w_mC,w_mod4,w_eqI]
   by_cases h3:x % 4=y % 4
   ·simp only [h3,beq_self_eq_true,if_true,w_mRet,w_mTup,w_mCons,w_mNil,w_mC,w_mVar0,w_mVarS,w_mOp,w_subI,len2,true_and]
   ·have e3:(x % 4 == y % 4)=false:=by simpa using h3
    simp only [h3,e3,Bool.false_eq_true,if_false,w_mNext,w_mRet,w_mTup,w_mCons,w_mNil,w_mC,w_mVar0,w_mVarS,w_mOp,w_addI,len2,true_and]
noncomputable def Six (d:D):Prop:=∃ a b c d' e g:Int,d=.tup [.int a,.int b,.int c,.int d',.int e,.int g]
theorem s_led (k:Nat)(d:D)(hd:Six d)(x y:Int)(hx:0<=x/\x<=100)(hy:0<=y/\y<=100)(μ:Hm)(Q:D×Hm->Prop)(H:∀ u v,Q (P u v,μ)):W (f (k+1) "_law_led" [d,P x y] μ) Q:=by
 obtain ⟨a,b,c,d',e,g,rfl⟩:=hd
 rw [ev_w_led,W_fin]
 simp only [w_mSeq,w_mAsg,w_mVar0,w_gTup6,List.set_cons_zero,List.set_cons_succ,w_mRet,w_mTup,w_mCons,w_mNil,w_mOp,w_mVarS,w_mC,w_it20,w_it21]
 refine (w_mulI (.inr (by omega))).mpr ((w_mulI (.inr (by omega))).mpr ?_)
 simp only [w_addI]
 refine (w_mulI (.inr (by omega))).mpr ((w_mulI (.inr (by omega))).mpr ?_)
 simp only [w_addI,len2,true_and]
 exact H _ _
theorem s_over (k:Nat)(d:D)(hd:Six d)(u n:Int)(μ:Hm)(Q:D×Hm->Prop)(H:∀ d',Six d'->Q (d',μ)):W (f (k+1) "_law_over" [d,P u n] μ) Q:=by
 obtain ⟨a,b,c,d',e,g,rfl⟩:=hd
 rw [ev_w_over,W_fin]
 simp only [w_mSeq,w_mAsg,w_mVar0,w_gTup6,w_gTup2,List.set_cons_zero,List.set_cons_succ,w_mIfS,w_mTest,w_mOp,w_mVarS,w_mC,w_eqI]
 cases h0:u == 0 with
 | true=>
  simp only [if_true,w_mRet,w_mTup,w_mCons,w_mNil,w_mVar0,w_mVarS,w_mNeg,w_mOp,w_mC,w_mul2,w_subI]
  exact ⟨len6,H _ ⟨_,_,_,_,_,_,rfl⟩⟩
 | false=>
  simp only [Bool.false_eq_true,if_false,w_mNext,w_mSeq,w_mIfS,w_mTest,w_mOp,w_mVar0,w_mVarS,w_mC,w_mod4,w_eqI]
  cases h1:u == 1 with
  | true=>
   simp only [if_true,w_mRet,w_mTup,w_mCons,w_mNil,w_mVar0,w_mVarS,w_mNeg,w_mOp,w_mC,w_mul2,w_subI]
   exact ⟨len6,H _ ⟨_,_,_,_,_,_,rfl⟩⟩
  | false=>
   simp only [Bool.false_eq_true,if_false,w_mNext,w_mSeq,w_mIfS,w_mTest,w_mOp,w_mVar0,w_mVarS,w_mC,w_mod4,w_eqI]
   cases h2:u == 2 with
   | true=>
    simp only [if_true,w_mRet,w_mTup,w_mCons,w_mNil,w_mVar0,w_mVarS,w_mNeg,w_mOp,w_mC,w_addI,w_subI]
    exact ⟨len6,H _ ⟨_,_,_,_,_,_,rfl⟩⟩
   | false=>
    simp only [Bool.false_eq_true,if_false,w_mNext,w_mRet,w_mTup,w_mCons,w_mNil,w_mVar0,w_mVarS,w_mNeg,w_mOp,w_mC,w_subI]
    exact ⟨len6,H _ ⟨_,_,_,_,_,_,rfl⟩⟩
theorem at4 {a b c d:Int}{i:Int}(h:0<=i/\i<4):∃ v:Int,atI [D.int a,.int b,.int c,.int d] i=some (.int v):=by
 have:i=0\/i=1\/i=2\/i=3:=by omega
 rcases this with rfl|rfl|rfl|rfl
 ·exact ⟨a,rfl⟩
 ·exact ⟨b,rfl⟩
 ·exact ⟨c,rfl⟩
 ·exact ⟨d,rfl⟩
theorem s_value (k:Nat)(x y u:Int)(hu:0<=u/\u<4)(μ:Hm)(Q:D×Hm->Prop)(H:∀ (v:Int) μ',μ <+: μ'->Q (.int v,μ')):W (f (k+1) "_law_value" [P x y,.int u] μ) Q:=by
 rw [ev_w_value,W_fin]
 simp only [w_mRet,w_mOp,w_mLst,w_mCons,w_mNil,w_mVar0,w_mVarS,w_mC,w_it20,w_it21,w_subI,w_addI]
 refine ⟨by show (4:Nat)<=sizeLine;decide,?_⟩
 obtain ⟨v,hv⟩:=at4 (a:=y) (b:=x) (c:=x - y) (d:=x+y) hu
 refine (w_itL (get_last _ _) hv).mpr ?_
 exact H _ _ (pre_snoc _ _)
noncomputable def mirZ (p l:Int×Int):Int×Int:=if l.1=0 then (p.1,2 * l.2 - p.2) else if l.1=1 then (2 * l.2 - p.1,p.2) else if l.1=2 then (p.2+l.2,p.1 - l.2) else (l.2 - p.2,l.2 - p.1)
noncomputable def keyP (p:Int×Int):List Int:=[p.1,p.2]
theorem keys_PP:∀ ps:List (Int×Int),keysT (ps.map PP)=some (ps.map keyP)
 | []=>rfl
 | p::ps=>by
  rw [List.map_cons]
  show (keyT (PP p)).bind (fun k=>(keysT (ps.map PP)).map (k::·))=_
  rw [keys_PP ps]
  rfl
theorem ints_PP {ps:List (Int×Int)}(h:ps≠[]):intsD (ps.map PP)=none:=by
 cases ps with
 | nil=>exact absurd rfl h
 | cons p ps=>rfl
theorem range_getD {α:Type}(l:List α)(d:α):(List.range l.length).map (fun i=>l.getD i d)=l:=by
 refine List.ext_getElem (by simp) fun i h1 h2=>?_
 simp [List.getD,h2]
theorem w_sortP {μ:Hm}{a:Nat}{ps:List (Int×Int)}{Q:D×Hm->Prop}(h:μ[a]? = some (.lst (ps.map PP)))(hl:ps.length<64)(H:∀ qs:List (Int×Int),qs.Perm ps->Q (.loc μ.length,μ++[.lst (qs.map PP)])):W (sortedA [.loc a] μ) Q:=by
 by_cases h0:ps=[]
 ·subst h0
  have e:sortI []=[]:=by simp [sortI]
  refine (w_sortI (is:=[]) h (by decide)).mpr ?_
  rw [e]
  exact H [] (.refl _)
 have hp:0<ps.length:=List.length_pos_iff.mpr h0
 have e1:sortIM [.loc a] μ=none:=by
  simp only [sortIM,lstD,h,Option.bind_some]
  rw [ints_PP h0];rfl
 have pm:=sortIx_perm (ltK (ps.map keyP)) hp
 have e2:(sortIx (ltK (ps.map keyP)) ps.length).map (fun i=>(ps.map PP).getD i .non)=((sortIx (ltK (ps.map keyP)) ps.length).map fun i=>ps.getD i (0,0)).map PP:=by
  rw [List.map_map]
  refine List.map_congr_left fun i hi=>?_
  have hi:i<ps.length:=List.mem_range.mp (pm.mem_iff.mp hi)
  simp [List.getD,hi]
 have e3:sortedM [.loc a] μ=some (.loc μ.length,μ++[.lst (((sortIx (ltK (ps.map keyP)) ps.length).map fun i=>ps.getD i (0,0)).map PP)]):=by
  simp only [sortedM,lstD,h,Option.bind_some,keys_PP]
  rw [if_pos ⟨by rw [Zl];omega,by rw [Zl];omega,fun t ht=>by obtain ⟨p,_,rfl⟩:=List.mem_map.mp ht;simp [keyP]⟩,Zl,e2]
 simp only [sortedA,e1,e3]
 refine W_some.mpr (H _ ?_)
 have:=pm.map fun i=>ps.getD i (0,0)
 rw [range_getD] at this
 exact this
noncomputable def besZ (x y:Int):List (Int×Int):=if y % 4=0 then [(x,y - 1),(x,y+1)] else if x % 4=0 then [(x - 1,y),(x+1,y)] else [(x+2 - x % 4,y),(x,y+2 - y % 4)]
theorem s_beside (k:Nat)(x y:Int)(μ:Hm)(Q:D×Hm->Prop)(H:∀ b q1 q2 μ',μ <+: μ'->μ'[b]? = some (.lst [PP q1,PP q2])->q1∈besZ x y->q2∈besZ x y->Q (.loc b,μ')):W (f (k+1) "_law_beside" [P x y] μ) Q:=by
 rw [ev_w_beside,W_fin]
 simp only [w_mSeq,w_mAsg,w_mVar0,w_gTup2,List.set_cons_zero,List.set_cons_succ,w_mIfS,w_mTest,w_mOp,w_mVarS,w_mC,w_mod4,w_eqI]
 unfold besZ at H
 by_cases h1:y % 4=0
 ·rw [if_pos h1] at H
  simp only [h1,beq_self_eq_true,if_true,w_mRet,w_mLst,w_mTup,w_mCons,w_mNil,w_mC,w_mVar0,w_mVarS,w_mOp,w_subI,w_addI,len2,true_and]
  exact H _ (x,y - 1) (x,y+1) _ (pre_snoc _ _) (get_last _ _) (by simp) (by simp)
 ·have e1:(y % 4 == 0)=false:=by simpa using h1
  rw [if_neg h1] at H
  simp only [e1,Bool.false_eq_true,if_false,w_mNext,w_mSeq,w_mIfS,w_mTest,w_mOp,w_mVar0,w_mVarS,w_mC,w_mod4,w_eqI]
  by_cases h2:x % 4=0
  ·rw [if_pos h2] at H
   simp only [h2,beq_self_eq_true,if_true,w_mRet,w_mLst,w_mTup,w_mCons,w_mNil,w_mC,w_mVar0,w_mVarS,w_mOp,w_subI,w_addI,len2,true_and]
   exact H _ (x - 1,y) (x+1,y) _ (pre_snoc _ _) (get_last _ _) (by simp) (by simp)
  ·have e2:(x % 4 == 0)=false:=by simpa using h2
   rw [if_neg h2] at H
   simp only [e2,Bool.false_eq_true,if_false,w_mNext,w_mRet,w_mCall,w_mLst,w_mTup,w_mCons,w_mNil,w_mC,w_mVar0,w_mVarS,w_mOp,w_mod4,w_subI,w_addI,len2,true_and]
   refine w_sortP (ps:=[(x+2 - x % 4,y),(x,y+2 - y % 4)]) (get_last _ _) (by simp) fun qs hq=>?_
   match qs,hq,hq.length_eq with
   | [q1,q2],hq,_=>
    exact H _ q1 q2 _ ((pre_snoc _ _).trans (pre_snoc _ _)) (get_last _ _) (hq.mem_iff.mp (by simp)) (hq.mem_iff.mp (by simp))
theorem at34 {i:Int}(h:0<=i/\i<4):∃ v:Int,atI [D.int 3,.int 3,.int 4,.int 4] i=some (.int v)/\0<v:=by
 have:i=0\/i=1\/i=2\/i=3:=by omega
 rcases this with rfl|rfl|rfl|rfl
 ·exact ⟨3,rfl,by decide⟩
 ·exact ⟨3,rfl,by decide⟩
 ·exact ⟨4,rfl,by decide⟩
 ·exact ⟨4,rfl,by decide⟩
theorem line_k (x y:Int):0<=(lineZ x y).1/\(lineZ x y).1<4:=by
 unfold lineZ
 split
 ·exact ⟨by simp,by simp⟩
 ·split
  ·exact ⟨by simp,by simp⟩
  ·split<;>exact ⟨by simp,by simp⟩
theorem get_PP {es:List (Int×Int)}{i:Nat}{d:D}(h:(es.map PP)[i]? = some d):∃ p,es[i]? = some p/\d=PP p:=by
 rw [List.getElem?_map] at h
 obtain ⟨p,h1,h2⟩:=Zm.mp h
 exact ⟨p,h1,h2.symm⟩
theorem s_by_lines (k:Nat)(a:Nat)(es:List (Int×Int))(he:es.length<=1000)(n:Int)(μ:Hm)(ha:μ[a]? = some (.lst (es.map PP)))(Q:D×Hm->Prop)(H:∀ b (fs:List (Int×Int)) μ',μ <+: μ'->μ'[b]? = some (.lst (fs.map PP))->fs.length<=es.length->Q (.loc b,μ')):W (f (k+2) "_law_by_lines" [.loc a,.int n] μ) Q:=by
 rw [ev_w_by_lines,W_fin]
 simp only [w_mSeq,w_mSet,w_mLst,w_mNil]
 refine ⟨Nat.zero_le _,?_⟩
 simp only [List.set_cons_zero,List.set_cons_succ,w_mForI,w_iSeq,w_mVar0]
 refine (w_seqL (pre_get (pre_snoc _ _) ha)).mpr ?_
 refine w_forL (fun i ρ μ'=>μ <+: μ'/\∃ fs o3 o4 o5,μ'[μ.length]? = some (.lst ((fs:List (Int×Int)).map PP))/\fs.length<=i/\i<=es.length/\ρ=[some (.loc a),some (.int n),some (.loc μ.length),o3,o4,o5]) ⟨pre_snoc _ _,[],none,none,none,get_last _ _,Nat.le_refl _,Nat.zero_le _,rfl⟩ (fun i ρ μ' h=>pre_get h.1 ha) ?_ ?_
 ·rintro i d ρ μ1 hd ⟨hp,fs,o3,o4,o5,hg,hf,_,rfl⟩
  obtain ⟨⟨x,y⟩,hx,rfl⟩:=get_PP hd
  have hi:i<es.length:=(Zg.mp hx).1
  refine ⟨_,rfl,?_⟩
  simp only [List.set_cons_zero,List.set_cons_succ,w_mSeq,w_mAsg,w_mCall,w_mCons,w_mNil,w_mVar0,w_mVarS]
  refine (s_line k x y _ _).mpr ?_
  have hk:=line_k x y
  generalize lineZ x y=l at hk
  obtain ⟨u,m⟩:=l
  dsimp only at hk
  simp only [PP,P,w_gTup2,List.set_cons_zero,List.set_cons_succ,w_mIfS,w_mTest,w_mOp,w_mVar0,w_mVarS,w_mC]
  refine (w_mulI (.inl (by decide))).mpr ((w_fdivI (by decide) (by decide)).mpr ?_)
  simp only [w_mod5,w_addI]
  have h5:0<=m / 4 % 5/\m / 4 % 5<5:=⟨Int.emod_nonneg _ (by decide),Int.emod_lt_of_pos _ (by decide)⟩
  refine (w_fdivI (by omega) (by omega)).mpr ?_
  simp only [w_mLst,w_mCons,w_mNil,w_mC]
  refine ⟨by decide,?_⟩
  obtain ⟨v,hv,hv0⟩:=at34 hk
  refine (w_itL (get_last _ _) hv).mpr ((w_modI hv0).mpr ?_)
  simp only [w_eqI]
  have hp1:=hp.trans (pre_snoc μ1 (C.lst [D.int 3,D.int 3,D.int 4,D.int 4]))
  have hg1:=pre_get (pre_snoc μ1 (C.lst [D.int 3,D.int 3,D.int 4,D.int 4])) hg
  split
  ·simp only [w_mDrop]
   refine w_mMeth ?_
   simp only [w_mVar0,w_mVarS]
   refine ⟨isLst_loc hg1,?_⟩
   simp only [w_mCons,w_mNil,w_mVar0,w_mVarS]
   refine (w_append hg1 (by rw [Zl,sizeLine_eq];omega)).mpr ?_
   refine ⟨pre_set hp1 (Nat.le_refl _) _,fs++[(x,y)],_,_,_,?_,by rw [List.length_append];exact Nat.succ_le_succ hf,hi,rfl⟩
   rw [set_get hg1,List.map_append]
   rfl
  ·simp only [w_mNext]
   exact ⟨hp1,fs,_,_,_,hg1,Nat.le_succ_of_le hf,hi,rfl⟩
 ·rintro ρ μ1 ⟨hp,fs,o3,o4,o5,hg,hf,_,rfl⟩
  simp only [w_mRet,w_mVar0,w_mVarS]
  exact H _ _ _ hp hg (by simpa using hf)
theorem val_some (kvs:List (List Int×D))(k:List Int):(valDT kvs k).isSome=kvs.any fun p=>decide (p.1=k):=by
 unfold valDT
 rw [Option.isSome_map,Bool.eq_iff_iff,List.find?_isSome,List.any_eq_true]
theorem val_mem {kvs:List (List Int×D)}{k:List Int}{d:D}(h:valDT kvs k=some d):(k,d)∈kvs:=by
 unfold valDT at h
 obtain ⟨p,h1,rfl⟩:=Zm.mp h
 have h2:=List.find?_some h1
 have h3:=List.mem_of_find?_eq_some h1
 simp only [decide_eq_true_eq] at h2
 rw [<- h2]
 exact h3
theorem put_some (kvs:List (List Int×D))(k k':List Int)(d:D):(valDT (putDT kvs k d) k').isSome=(decide (k=k')||(valDT kvs k').isSome):=by
 unfold putDT
 split
 ·rename_i h
  have e:(kvs.map fun p=>if p.1=k then (p.1,d) else p).any (fun p=>decide (p.1=k'))=kvs.any fun p=>decide (p.1=k'):=by
   rw [List.any_map]
   congr 1
   funext p
   simp only [Function.comp]
   split<;>rfl
  rw [val_some,e,val_some kvs k']
  by_cases z:k=k'
  ·subst z
   rw [val_some] at h
   rw [h];simp
  ·simp [z]
 ·rw [val_some,List.any_append,val_some]
  simp only [List.any_cons,List.any_nil,Bool.or_false]
  exact Bool.or_comm _ _
theorem put_len {kvs:List (List Int×D)}{k:List Int}{d:D}(h:(valDT kvs k).isSome=true):(putDT kvs k d).length=kvs.length:=by
 unfold putDT;rw [if_pos h,Zl]
noncomputable def OkD (qs:List (Int×Int))(kvs:List (List Int×D)):Prop:=∀ p∈kvs,(∃ q∈qs,p.1=keyP q)/\Six p.2
theorem OkD.put {qs:List (Int×Int)}{kvs:List (List Int×D)}(h:OkD qs kvs){q:Int×Int}(hq:q∈qs){d:D}(hd:Six d):OkD qs (putDT kvs (keyP q) d):=by
 intro p hp
 unfold putDT at hp
 split at hp
 ·obtain ⟨p',h1,h2⟩:=List.mem_map.mp hp
  by_cases z:p'.1=keyP q
  ·rw [if_pos z] at h2
   rw [<- h2]
   exact ⟨⟨q,hq,z⟩,hd⟩
  ·rw [if_neg z] at h2
   rw [<- h2]
   exact h p' h1
 ·rcases List.mem_append.mp hp with hp|hp
  ·exact h p hp
  ·rw [List.mem_singleton.mp hp]
   exact ⟨⟨q,hq,rfl⟩,hd⟩
theorem OkD.val {qs:List (Int×Int)}{kvs:List (List Int×D)}(h:OkD qs kvs){k:List Int}(hs:(valDT kvs k).isSome=true):∃ d,valDT kvs k=some d/\Six d:=by
 obtain ⟨d,hd⟩:=Option.isSome_iff_exists.mp hs
 exact ⟨d,hd,(h _ (val_mem hd)).2⟩
theorem mem_grid {lo:Int}{n m:Nat}{p:Int×Int}(h:p∈gridL lo n m):(lo<=p.1/\p.1<lo+n)/\(lo<=p.2/\p.2<lo+m):=by
 unfold gridL at h
 obtain ⟨i,hi,h⟩:=List.mem_flatMap.mp h
 obtain ⟨j,hj,rfl⟩:=List.mem_map.mp h
 have:=List.mem_range.mp hi
 have:=List.mem_range.mp hj
 dsimp only
 omega
theorem quart_small {w h:Int}(hw:1<=w/\w<=3)(hh:1<=h/\h<=3){q:Int×Int}(hq:q∈quartZ w h):(0<=q.1/\q.1<=100)/\(0<=q.2/\q.2<=100):=by
 have:=mem_grid (List.mem_filter.mp hq).1
 omega
theorem mem3 {w:Int}(h:1<=w/\w<=3):w∈[(1:Int),2,3]:=by
 have:w=1\/w=2\/w=3:=by omega
 rcases this with rfl|rfl|rfl<;>decide
theorem facts9:∀ w∈[(1:Int),2,3],∀ h∈[(1:Int),2,3],(quartZ w h≠[]/\(quartZ w h).length<=36)/\(innerZ w h).length<=48/\∀ p∈innerZ w h,∀ q∈besZ p.1 p.2,q∈quartZ w h:=by decide +kernel
noncomputable def GrI (qs:List (Int×Int))(μ μ':Hm):Prop:=μ <+: μ'/\∃ kvs,μ'[μ.length]? = some (.dT kvs)/\OkD qs kvs/\kvs.length<=100/\∀ q∈qs,(valDT kvs (keyP q)).isSome=true
theorem GrI.more {qs:List (Int×Int)}{μ μ1 μ2:Hm}(h:GrI qs μ μ1)(p:μ1 <+: μ2):GrI qs μ μ2:=
 let ⟨h1,kvs,h2,h3⟩:=h
 ⟨h1.trans p,kvs,pre_get p h2,h3⟩
theorem keyT_PP (q:Int×Int):keyT (PP q)=some (keyP q):=rfl
theorem get_keys {qs:List (Int×Int)}{kvs:List (List Int×D)}(h:OkD qs kvs){i:Nat}{d:D}(hd:(kvs.map fun k=>D.tup (k.1.map D.int))[i]? = some d):∃ q∈qs,d=PP q:=by
 rw [List.getElem?_map] at hd
 obtain ⟨p,h1,rfl⟩:=Zm.mp hd
 obtain ⟨⟨q,hq,e⟩,_⟩:=h p (List.mem_of_getElem? h1)
 exact ⟨q,hq,by rw [e];rfl⟩
theorem s_vl (k:Nat){w h:Int}(hw:1<=w/\w<=3)(hh:1<=h/\h<=3){q:Int×Int}(hq:q∈quartZ w h){u:Int}(hu:0<=u/\u<4){μ μ':Hm}(G:GrI (quartZ w h) μ μ')(Q:D×Hm->Prop)(H:∀ (v:Int) μ'',μ' <+: μ''->Q (.int v,μ'')) :
  W (itD (.loc μ.length) (PP q) μ') fun p=>W (f (k+1) "_law_led" [p.1,PP q] p.2) fun r=>W (f (k+1) "_law_value" [r.1,.int u] r.2) Q:=by
 obtain ⟨_,kvs,hg,hO,_,ha⟩:=G
 obtain ⟨d,hd,h6⟩:=hO.val (ha q hq)
 refine (w_itT hg (keyT_PP q) hd).mpr ?_
 have hs:=quart_small hw hh hq
 refine s_led k d h6 q.1 q.2 hs.1 hs.2 _ _ fun x y=>?_
 exact s_value k x y u hu _ _ H
theorem put_gr {qs:List (Int×Int)}{μ μ':Hm}{kvs:List (List Int×D)}(hp:μ <+: μ')(hg:μ'[μ.length]? = some (.dT kvs))(hO:OkD qs kvs)(hl:kvs.length<=100)(ha:∀ q∈qs,(valDT kvs (keyP q)).isSome=true){q:Int×Int}(hq:q∈qs){d:D}(hd:Six d):GrI qs μ (μ'.set μ.length (.dT (putDT kvs (keyP q) d))):=
 ⟨pre_set hp (Nat.le_refl _) _,_,set_get hg,hO.put hq hd,by rw [put_len (ha q hq)];exact hl,fun q' h'=>by rw [put_some,ha q' h',Bool.or_true]⟩
theorem set_other {μ:Hm}{a b:Nat}{c:C}(h:a≠b):(μ.set a c)[b]? = μ[b]?:=by
 rw [List.getElem?_set];simp [h]
theorem s_grown (k:Nat){w h:Int}(hw:1<=w/\w<=3)(hh:1<=h/\h<=3)(b:Nat)(fs:List Int)(μ:Hm)(hb:μ[b]? = some (.lst (fs.map D.int)))(Q:D×Hm->Prop)(H:∀ μ',GrI (quartZ w h) μ μ'->Q (.loc μ.length,μ')):W (f (k+2) "_law_grown" [.int w,.int h,.loc b] μ) Q:=by
 have F:=facts9 w (mem3 hw) h (mem3 hh)
 rw [ev_w_grown,W_fin]
 simp only [w_mSeq,w_mSet,w_mDNewT,List.set_cons_zero,List.set_cons_succ,w_mForI,w_iSeq,w_mCall,w_mCons,w_mNil,w_mVar0,w_mVarS]
 refine s_quarters k w h hw hh _ _ ?_
 refine (w_seqL (get_last _ _)).mpr ?_
 have hbl:b<μ.length:=(Zg.mp hb).1
 have hlen:(μ++[C.dT []]).length=μ.length+1:=by simp
 refine w_forL (xs:=(quartZ w h).map PP) (fun i ρ μ'=>μ <+: μ'/\μ'[(μ++[C.dT []]).length]? = some (.lst ((quartZ w h).map PP))/\∃ kvs o4,μ'[μ.length]? = some (.dT kvs)/\OkD (quartZ w h) kvs/\kvs.length<=i/\i<=(quartZ w h).length/\(∀ q∈(quartZ w h).take i,(valDT kvs (keyP q)).isSome=true)/\ρ=[some (.int w),some (.int h),some (.loc b),some (.loc μ.length),o4,none,none,none,none,none])
  ⟨(pre_snoc _ _).trans (pre_snoc _ _),get_last _ _,[],none,pre_get (pre_snoc _ _) (get_last _ _),fun p hp=>(by cases hp),Nat.le_refl _,Nat.zero_le _,fun q hq=>(by simp at hq),rfl⟩ (fun i ρ μ' hI=>hI.2.1) ?_ ?_
 ·rintro i d ρ μ1 hd ⟨hp,hg2,kvs,o4,hg,hO,hl,hi',ha,rfl⟩
  obtain ⟨q,hq,rfl⟩:=get_PP hd
  have hqm:q∈quartZ w h:=List.mem_of_getElem? hq
  have hi:i<(quartZ w h).length:=(Zg.mp hq).1
  refine ⟨_,rfl,?_⟩
  simp only [List.set_cons_zero,List.set_cons_succ,w_mPut,w_mTup,w_mCons,w_mNil,w_mC,w_mVar0,w_mVarS]
  refine ⟨len6,?_⟩
  refine (w_putT hg (keyT_PP q) (by have:=F.1.2;rw [sizeLine_eq];omega)).mpr ?_
  refine ⟨pre_set hp (Nat.le_refl _) _,?_,_,_,set_get hg,hO.put hqm ⟨_,_,_,_,_,_,rfl⟩,?_,hi,?_,rfl⟩
  ·rw [set_other (by omega)]
   exact hg2
  ·exact Nat.le_trans (putDT_len _ _ _) (Nat.succ_le_succ hl)
  ·intro q' hq'
   rw [put_some]
   rw [List.take_succ,hq] at hq'
   rcases List.mem_append.mp hq' with hq'|hq'
   ·rw [ha q' hq',Bool.or_true]
   ·have:q'=q:=by simpa using hq'
    subst this
    simp
 ·rintro ρ μ1 ⟨hp,hg2,kvs,o4,hg,hO,hl,hi',ha,rfl⟩
  have G:GrI (quartZ w h) μ μ1:=⟨hp,kvs,hg,hO,by have:=F.1.2;rw [Zl] at hl;omega,fun q hq=>ha q (by rw [Zl,List.take_length];exact hq)⟩
  clear hg2 ha hO hg hl hi' kvs
  simp only [w_mSeq,w_mForI,w_iSeq,w_mVar0,w_mVarS]
  refine (w_seqL (pre_get G.1 hb)).mpr ?_
  refine w_forL (xs:=fs.map D.int) (fun i ρ μ'=>GrI (quartZ w h) μ μ'/\∃ o4 o5 o6 o7 o8 o9,ρ=[some (.int w),some (.int h),some (.loc b),some (.loc μ.length),o4,o5,o6,o7,o8,o9]) ⟨G,_,_,_,_,_,_,rfl⟩ (fun i ρ μ' hI=>pre_get hI.1.1 hb) ?_ ?_
  ·rintro i d ρ μ2 hd ⟨G2,o4,o5,o6,o7,o8,o9,rfl⟩
   obtain ⟨n,_,rfl⟩:=mem_ints (List.mem_of_getElem? hd)
   refine ⟨_,rfl,?_⟩
   simp only [List.set_cons_zero,List.set_cons_succ,w_mSeq,w_mSet,w_mOp,w_mVar0,w_mVarS,w_mC,w_mod4,w_mCall,w_mCons,w_mNil]
   obtain ⟨hp2,kvs,hg,hO,hl,ha⟩:=id G2
   have hne:0<kvs.length:=by
    obtain ⟨q,hq⟩:=List.exists_mem_of_ne_nil _ F.1.1
    obtain ⟨d,hd⟩:=Option.isSome_iff_exists.mp (ha q hq)
    exact List.length_pos_of_mem (val_mem hd)
   refine (w_listX hg).mpr ?_
   refine (w_fdivI (by decide) (by decide)).mpr ((w_lenX (pre_get (pre_snoc _ _) hg)).mpr ((w_modI (by omega)).mpr ?_))
   have hm:0<=n / 16 % (kvs.length:Int)/\n / 16 % (kvs.length:Int)<kvs.length:=⟨Int.emod_nonneg _ (by omega),Int.emod_lt_of_pos _ (by omega)⟩
   obtain ⟨dn,hdn⟩:∃ dn,(kvs.map fun k=>D.tup (k.1.map D.int))[(n / 16 % (kvs.length:Int)).toNat]? = some dn:=⟨_,List.getElem?_eq_getElem (by rw [Zl];omega)⟩
   obtain ⟨qn,hqn,rfl⟩:=get_keys hO hdn
   have hat:atI (kvs.map fun k=>D.tup (k.1.map D.int)) (n / 16 % (kvs.length:Int))=some (PP qn):=by
    unfold atI
    rw [ix_ok hm.1 (by rw [Zl];exact hm.2),Option.bind_some]
    exact hdn
   refine (w_itL (get_last _ _) hat).mpr ?_
   simp only [List.set_cons_zero,List.set_cons_succ,w_mVar0,w_mVarS]
   have hu:0<=n % 4/\n % 4<4:=⟨Int.emod_nonneg _ (by decide),Int.emod_lt_of_pos _ (by decide)⟩
   refine s_vl k hw hh hqn hu (G2.more (pre_snoc _ _)) _ fun v μ3 p3=>?_
   refine (w_fdivI (by decide) (by decide)).mpr ((w_mulI (.inr (by decide))).mpr ((w_fdivI (by decide) (by decide)).mpr ((w_modI (by decide)).mpr ((w_mulI (.inr (by decide))).mpr ?_))))
   simp only [w_addI]
   have G3:=(G2.more (pre_snoc _ _)).more p3
   generalize hn':v / 4 * 4+n / 4 % 2 * 4=N
   clear hn' hat hdn hqn hm hne hg hl ha hp2
   obtain ⟨_,kvs3,hg3,hO3,_⟩:=id G3
   simp only [List.set_cons_zero,List.set_cons_succ,w_mForI,w_iSeq,w_mCall,w_mCons,w_mNil,w_mVar0,w_mVarS]
   refine (w_listX hg3).mpr ((w_seqL (get_last _ _)).mpr ?_)
   refine w_forL (fun i ρ μ'=>GrI (quartZ w h) μ μ'/\μ'[μ3.length]? = some (.lst (kvs3.map fun k=>D.tup (k.1.map D.int)))/\∃ o4 o9,ρ=[some (.int w),some (.int h),some (.loc b),some (.loc μ.length),o4,some (.int n),some (.int (n % 4)),some (PP qn),some (.int N),o9]) ⟨G3.more (pre_snoc _ _),get_last _ _,_,_,rfl⟩ (fun i ρ μ' hI=>hI.2.1) ?_ ?_
   ·rintro j d ρ μ4 hd ⟨G4,hg4,o4,o9,rfl⟩
    obtain ⟨q,hq,rfl⟩:=get_keys hO3 hd
    refine ⟨_,rfl,?_⟩
    simp only [List.set_cons_zero,List.set_cons_succ,w_mSeq,w_mSet,w_mOp,w_mCall,w_mCons,w_mNil,w_mVar0,w_mVarS]
    refine s_vl k hw hh hq hu G4 _ fun v' μ5 p5=>?_
    simp only [w_gtI,List.set_cons_zero,List.set_cons_succ,w_mIfS,w_mTest,w_mOp,w_mVar0,w_mVarS,w_mC]
    refine (w_fdivI (by decide) (by decide)).mpr ((w_modI (by decide)).mpr ?_)
    simp only [w_eqI,w_eqB]
    have G5:=G4.more p5
    have hg5:=pre_get p5 hg4
    split
    ·obtain ⟨hp5,kvs5,hh5,hO5,hl5,ha5⟩:=id G5
     simp only [w_mPut,w_mCall,w_mCons,w_mNil,w_mOp,w_mVar0,w_mVarS]
     obtain ⟨d,hd',h6⟩:=hO5.val (ha5 q hq)
     refine (w_itT hh5 (keyT_PP q) hd').mpr ?_
     simp only [w_mTup,w_mCons,w_mNil,w_mVar0,w_mVarS,len2,true_and]
     refine s_over k d h6 (n % 4) N _ _ fun d' h6'=>?_
     refine (w_putT hh5 (keyT_PP q) (by rw [sizeLine_eq];omega)).mpr ?_
     refine ⟨put_gr hp5 hh5 hO5 hl5 ha5 hq h6',?_,_,_,rfl⟩
     rw [set_other]
     ·exact hg5
     ·intro z
      rw [z,hg5] at hh5
      cases hh5
    ·simp only [w_mNext]
     exact ⟨G5,hg5,_,_,rfl⟩
   ·rintro ρ μ4 ⟨G4,_,o4,o9,rfl⟩
    exact ⟨G4,_,_,_,_,_,_,rfl⟩
  ·rintro ρ μ2 ⟨G2,o4,o5,o6,o7,o8,o9,rfl⟩
   simp only [w_mRet,w_mVar0,w_mVarS]
   exact H _ G2
theorem w_ne6 {d d':D}(h:Six d)(h':Six d'){μ:Hm}{Q:D×Hm->Prop}(H:∀ b,Q (.bl b,μ)):W (eqM true d d' μ) Q:=by
 obtain ⟨a1,a2,a3,a4,a5,a6,rfl⟩:=h
 obtain ⟨b1,b2,b3,b4,b5,b6,rfl⟩:=h'
 exact W_some.mpr (H _)
theorem w_inP {neg:Bool}{μ:Hm}{a:Nat}{ps:List (Int×Int)}{q:Int×Int}{Q:D×Hm->Prop}(h:μ[a]? = some (.lst (ps.map PP))):W (inD neg (PP q) (.loc a) μ) Q↔Q (.bl (if neg then !(ps.any fun p=>p == q) else ps.any fun p=>p == q),μ):=by
 have e:inD neg (PP q) (.loc a) μ=some (.bl (if neg then !(ps.any fun p=>p == q) else ps.any fun p=>p == q),μ):=by
  simp only [inD,h]
  unfold inSeq
  have e:seqD μ (.loc a)=some (ps.map PP):=by simp only [seqD,h]
  rw [e]
  show (memEq μ (PP q) (ps.map PP)).map _=_
  rw [mem_PPs]
  rfl
 rw [e]
 exact W_some
theorem w_mulL {μ:Hm}{a:Nat}{x:D}{k:Bool}{Q:D×Hm->Prop}(h:μ[a]? = some (.lst [x])):W (mulD (.loc a) (.int (if k then 1 else 0)) μ) Q↔Q (.loc μ.length,μ++[.lst (if k then [x] else [])]):=by
 have:mulD (.loc a) (.int (if k then 1 else 0)) μ=some (.loc μ.length,μ++[.lst (if k then [x] else [])]):=by
  cases k with
  | true=>
   simp only [mulD,h,if_true]
   rw [if_pos ⟨by decide,by decide,by show (1:Nat)<=sizeLine;decide⟩]
   rfl
  | false=>
   simp only [mulD,h,Bool.false_eq_true,if_false]
   rw [if_pos ⟨by decide,by decide,by show (0:Nat)<=sizeLine;decide⟩]
   rfl
 rw [this]
 exact W_some
noncomputable abbrev RD (ns:List Int)(w h:Int)(c e:Nat)(v n:Int)(o7 o8 o9 o10 o11 o12 o13 o14:Option D):Rho:=[some (.rol (ns.map D.int)),some (.int w),some (.int h),some (.loc c),some (.loc e),some (.int v),some (.int n),o7,o8,o9,o10,o11,o12,o13,o14]
theorem cr_each (k:Nat)(ns:List Int)(w h:Int)(c e:Nat)(v n:Int)(es:List (Int×Int))(hes:es.length<=48)(μ:Hm)(he:μ[e]? = some (.lst (es.map PP)))(Q:Fl×Rho×Hm->Prop)
  (H:∀ b (fs:List (Int×Int)) ρ μ',μ <+: μ'->μ'[b]? = some (.lst (fs.map PP))->fs.length<=49->Q (.rt (.loc b),ρ,μ')) :
  W (mSeq (mSet 7 (mLst mNil)) (mSeq (mForI (iEnumD (mCons (mVar 4) mNil)) (gTupD [8,9]) (mSeq (mSet 10 (mOp addD (mOp mulD (mVar 6) (mOp addD (mOp mulD (mC (.int 2)) (mVar 8)) (mC (.int 1)))) (mOp mulD (mCall (f (k+1) "_law_cell") (mCons (mVar 0) (mCons (mOp addD (mC (.int 3)) (mOp modD (mVar 8) (mC (.int 5)))) mNil))) (mOp addD (mOp mulD (mVar 8) (mVar 8)) (mC (.int 5)))))) (mIfS (mTest (mOp ltD (mOp modD (mOp modD (mVar 10) (mC (.int 10007))) (mC (.int 7))) (mOp modD (mOp fdivD (mCall (f (k+1) "_law_cell") (mCons (mVar 0) (mCons (mC (.int 1)) mNil))) (mC (.int 5))) (mC (.int 8))))) (mDrop (mMeth appendM (mVar 7) (mCons (mVar 9) mNil))) mNext))) (mRet (mVar 7))) (RD ns w h c e v n none none none none none none none none) μ) Q:=by
 simp only [w_mSeq,w_mSet,w_mLst,w_mNil,List.set_cons_zero,List.set_cons_succ]
 refine ⟨Nat.zero_le _,?_⟩
 simp only [w_mForI]
 refine w_iEnum ?_
 simp only [w_mCons,w_mNil,w_mVar0,w_mVarS]
 refine ⟨e,es.map PP,rfl,pre_get (pre_snoc _ _) he,?_⟩
 refine w_forE (fun i ρ μ'=>μ <+: μ'/\∃ fs o8 o9 o10,μ'[μ.length]? = some (.lst ((fs:List (Int×Int)).map PP))/\fs.length<=i/\i<=es.length/\ρ=RD ns w h c e v n (some (.loc μ.length)) o8 o9 o10 none none none none) ⟨pre_snoc _ _,[],none,none,none,get_last _ _,Nat.le_refl _,Nat.zero_le _,rfl⟩ (fun i ρ μ' hI=>pre_get hI.1 he) ?_ ?_
 ·rintro i d ρ μ1 hd ⟨hp,fs,o8,o9,o10,hg,hf,_,rfl⟩
  obtain ⟨q,hq,rfl⟩:=get_PP hd
  have hi:i<es.length:=(Zg.mp hq).1
  refine ⟨RD ns w h c e v n (some (.loc μ.length)) (some (.int i)) (some (PP q)) o10 none none none none,rfl,?_⟩
  have h5:0<=(i:Int) % 5/\(i:Int) % 5<5:=⟨Int.emod_nonneg _ (by decide),Int.emod_lt_of_pos _ (by decide)⟩
  have hs:=sq_small (i:=(i:Int)) (by omega)
  simp only [RD,List.set_cons_zero,List.set_cons_succ,w_mSeq,w_mSet,w_mOp,w_mVar0,w_mVarS,w_mC,w_mul2,w_addI]
  refine (w_mulI (.inr (by omega))).mpr ?_
  simp only [w_mCall,w_mCons,w_mNil,w_mVar0,w_mVarS,w_mOp,w_mC,w_mod5,w_addI]
  refine s_cell k ns _ (by omega) _ _ fun μ2 p2=>?_
  have hi2:-(2 ^ 64)<(i:Int)/\(i:Int)<2 ^ 64:=by omega
  refine (w_mulI (.inl hi2)).mpr ?_
  simp only [w_addI]
  refine (w_mulI (.inr (by omega))).mpr ?_
  simp only [w_addI,List.set_cons_zero,List.set_cons_succ,w_mIfS,w_mTest,w_mOp,w_mVar0,w_mVarS,w_mC]
  refine (w_modI (by decide)).mpr ((w_modI (by decide)).mpr ?_)
  simp only [w_mCall,w_mCons,w_mNil,w_mVar0,w_mVarS,w_mC]
  refine s_cell k ns _ (by decide) _ _ fun μ3 p3=>?_
  refine (w_fdivI (by decide) (by decide)).mpr ((w_modI (by decide)).mpr ?_)
  simp only [w_ltI]
  have hp1:=hp.trans (p2.trans p3)
  have hg1:=pre_get (p2.trans p3) hg
  split
  ·simp only [w_mDrop]
   refine w_mMeth ?_
   simp only [w_mVar0,w_mVarS]
   refine ⟨isLst_loc hg1,?_⟩
   simp only [w_mCons,w_mNil,w_mVar0,w_mVarS]
   refine (w_append hg1 (by rw [Zl,sizeLine_eq];omega)).mpr ?_
   refine ⟨pre_set hp1 (Nat.le_refl _) _,fs++[q],_,_,_,?_,by rw [List.length_append];exact Nat.succ_le_succ hf,hi,rfl⟩
   rw [set_get hg1,List.map_append]
   rfl
  ·simp only [w_mNext]
   exact ⟨hp1,fs,_,_,_,hg1,Nat.le_succ_of_le hf,hi,rfl⟩
 ·rintro ρ μ1 ⟨hp,fs,o8,o9,o10,hg,hf,_,rfl⟩
  simp only [w_mRet,w_mVar0,w_mVarS]
  exact H _ fs _ _ hp hg (by rw [Zl] at hf;omega)
theorem cr_found (k:Nat)(ns:List Int){w h:Int}(hw:1<=w/\w<=3)(hh:1<=h/\h<=3)(c e:Nat)(v n:Int)(μ0 μ:Hm)(G:GrI (quartZ w h) μ0 μ)(he:μ[e]? = some (.lst ((innerZ w h).map PP)))(R:MS)(Q:Fl×Rho×Hm->Prop)
  (H:∀ (fs:List (Int×Int)) o9 o13 o14 μ',μ <+: μ'->μ'[μ.length]? = some (.lst (fs.map PP))->fs.length<=48->W (R (RD ns w h c e v n none none o9 none (some (.loc μ0.length)) (some (.loc μ.length)) o13 o14) μ') Q) :
  W (mSeq (mSet 12 (mLst mNil)) (mSeq (mForI (iSeqD (mVar 4)) (gSet 9) (mSeq (mAsg (mCall (f (k+1) "_law_beside") (mCons (mVar 9) mNil)) (gTupD [13,14])) (mIfS (mTest (mOp (eqM true) (mOp itD (mVar 11) (mVar 13)) (mOp itD (mVar 11) (mVar 14)))) (mDrop (mMeth appendM (mVar 12) (mCons (mVar 9) mNil))) mNext))) R) (RD ns w h c e v n none none none none (some (.loc μ0.length)) none none none) μ) Q:=by
 have F:=facts9 w (mem3 hw) h (mem3 hh)
 simp only [RD,w_mSeq,w_mSet,w_mLst,w_mNil,List.set_cons_zero,List.set_cons_succ]
 refine ⟨Nat.zero_le _,?_⟩
 simp only [w_mForI,w_iSeq,w_mVar0,w_mVarS]
 refine (w_seqL (pre_get (pre_snoc _ _) he)).mpr ?_
 refine w_forL (fun i ρ μ'=>μ <+: μ'/\∃ fs o9 o13 o14,μ'[μ.length]? = some (.lst ((fs:List (Int×Int)).map PP))/\fs.length<=i/\i<=(innerZ w h).length/\ρ=RD ns w h c e v n none none o9 none (some (.loc μ0.length)) (some (.loc μ.length)) o13 o14) ⟨pre_snoc _ _,[],none,none,none,get_last _ _,Nat.le_refl _,Nat.zero_le _,rfl⟩ (fun i ρ μ' hI=>pre_get hI.1 he) ?_ ?_
 ·rintro i d ρ μ1 hd ⟨hp,fs,o9,o13,o14,hg,hf,_,rfl⟩
  obtain ⟨⟨x,y⟩,hq,rfl⟩:=get_PP hd
  have hi:i<(innerZ w h).length:=(Zg.mp hq).1
  refine ⟨_,rfl,?_⟩
  simp only [RD,List.set_cons_zero,List.set_cons_succ,w_mSeq,w_mAsg,w_mCall,w_mCons,w_mNil,w_mVar0,w_mVarS]
  refine s_beside k x y _ _ fun b q1 q2 μ2 p2 hb h1 h2=>?_
  refine (w_gTupL hb).mpr ?_
  simp only [List.set_cons_zero,List.set_cons_succ,w_mIfS,w_mTest,w_mOp,w_mVar0,w_mVarS]
  have hin:=List.mem_of_getElem? hq
  have m1:=F.2.2 (x,y) hin q1 h1
  have m2:=F.2.2 (x,y) hin q2 h2
  obtain ⟨_,kvs,hk,hO,_,ha⟩:=(G.more hp).more p2
  obtain ⟨d1,e1,s1⟩:=hO.val (ha q1 m1)
  obtain ⟨d2,e2,s2⟩:=hO.val (ha q2 m2)
  refine (w_itT hk (keyT_PP q1) e1).mpr ((w_itT hk (keyT_PP q2) e2).mpr (w_ne6 s1 s2 fun bb=>?_))
  have hp1:=hp.trans p2
  have hg1:=pre_get p2 hg
  cases bb with
  | true=>
   simp only [if_true,w_mDrop]
   refine w_mMeth ?_
   simp only [w_mVar0,w_mVarS]
   refine ⟨isLst_loc hg1,?_⟩
   simp only [w_mCons,w_mNil,w_mVar0,w_mVarS]
   refine (w_append hg1 (by have:=F.2.1;rw [Zl,sizeLine_eq];omega)).mpr ?_
   refine ⟨pre_set hp1 (Nat.le_refl _) _,fs++[(x,y)],_,_,_,?_,by rw [List.length_append];exact Nat.succ_le_succ hf,hi,rfl⟩
   rw [set_get hg1,List.map_append]
   rfl
  | false=>
   simp only [Bool.false_eq_true,if_false,w_mNext]
   exact ⟨hp1,fs,_,_,_,hg1,Nat.le_succ_of_le hf,hi,rfl⟩
 ·rintro ρ μ1 ⟨hp,fs,o9,o13,o14,hg,hf,_,rfl⟩
  exact H fs _ _ _ _ hp hg (by have:=F.2.1;rw [Zl] at hf;omega)
theorem at_PP {es:List (Int×Int)}{i:Int}(h:0<=i/\i<es.length):∃ p,atI (es.map PP) i=some (PP p):=by
 have hl:i.toNat<es.length:=by omega
 refine ⟨es[i.toNat],?_⟩
 unfold atI
 rw [ix_ok h.1 (by rw [Zl];exact h.2),Option.bind_some,List.getElem?_map,List.getElem?_eq_getElem hl]
 rfl
theorem cr_one (ns:List Int)(w h:Int)(c e b:Nat)(v n:Int)(o9 g o13 o14:Option D)(es fs:List (Int×Int))(hel:es.length<=48)(hfl:fs.length<=48)(μ:Hm)(he:μ[e]? = some (.lst (es.map PP)))(hb:μ[b]? = some (.lst (fs.map PP)))(Q:Fl×Rho×Hm->Prop)
  (H:∀ b (fs:List (Int×Int)) ρ μ',μ <+: μ'->μ'[b]? = some (.lst (fs.map PP))->fs.length<=49->Q (.rt (.loc b),ρ,μ')) :
  W (mSeq (mIfS (mAndT (mTest (mOp (eqM false) (mVar 5) (mC (.int 1)))) (mTest (mOp (eqM true) (mVar 4) (mLst mNil)))) (mSeq (mSet 9 (mOp itD (mVar 4) (mOp modD (mOp fdivD (mVar 6) (mC (.int 6))) (mCall lenA (mCons (mVar 4) mNil))))) (mSet 12 (mCall sortedA (mCons (mOp addD (mCompI (iSeqD (mVar 12)) (mTest (mOp (eqM true) (mVar 15) (mVar 9))) (mVar 15)) (mOp mulD (mLst (mCons (mVar 9) mNil)) (mCall intM (mCons (mOp (inD true) (mVar 9) (mVar 12)) mNil)))) mNil)))) mNext) (mRet (mVar 12)) (RD ns w h c e v n none none o9 none g (some (.loc b)) o13 o14) μ) Q:=by
 simp only [RD,w_mSeq,w_mIfS,w_mAndT,w_mTest,w_mOp,w_mVar0,w_mVarS,w_mC,w_eqI]
 cases hv:v == 1 with
 | false=>
  simp only [Bool.false_eq_true,if_false,w_mNext,w_mRet,w_mVar0,w_mVarS]
  exact H b fs _ _ (List.prefix_refl _) hb (by omega)
 | true=>
  simp only [if_true,w_mLst,w_mNil]
  refine ⟨Nat.zero_le _,?_⟩
  refine (w_eqL (qs:=[]) (pre_get (pre_snoc _ _) he) (get_last _ _)).mpr ?_
  simp only [if_true]
  cases hz:!(es == []) with
  | false=>
   simp only [Bool.false_eq_true,if_false,w_mNext,w_mRet,w_mVar0,w_mVarS]
   exact H b fs _ _ (pre_snoc _ _) (pre_get (pre_snoc _ _) hb) (by omega)
  | true=>
   have h0:es≠[]:=fun z=>by rw [z] at hz;simp at hz
   have hl:0<es.length:=List.length_pos_iff.mpr h0
   generalize hμ:μ++[C.lst (List.map PP [])]=μ1
   have p1:μ <+: μ1:=by rw [<- hμ];exact pre_snoc _ _
   have he1:=pre_get p1 he
   have hb1:=pre_get p1 hb
   simp only [if_true,w_mSeq,w_mSet,w_mOp,w_mVar0,w_mVarS,w_mC,w_mCall,w_mCons,w_mNil]
   refine (w_fdivI (by decide) (by decide)).mpr ((w_lenL he1).mpr ?_)
   rw [Zl]
   refine (w_modI (by omega)).mpr ?_
   obtain ⟨p,hp⟩:=at_PP (es:=es) (i:=n / 6 % (es.length:Int)) ⟨Int.emod_nonneg _ (by omega),Int.emod_lt_of_pos _ (by omega)⟩
   refine (w_itL he1 hp).mpr ?_
   simp only [List.set_cons_zero,List.set_cons_succ]
   refine w_comp (xs:=fs.map PP) (p:=fun d=>!((unP d).1 == p.1&&((unP d).2 == p.2&&true))) (v:=fun d=>d) ?_
   simp only [w_iSeq,w_mVar0,w_mVarS]
   refine (w_seqL hb1).mpr ⟨src_loc hb1,rfl,by rw [Zl,sizeLine_eq];omega,fun d μ' hd hp=>?_,fun d μ' hd _ hp=>?_,fun μ2 p2 g2=>?_⟩
   ·obtain ⟨x,y,rfl⟩:=mem_PP hd
    simp only [List.cons_append,List.nil_append,w_mTest,w_mOp,w_mVar0,w_mVarS]
    exact w_neP.mpr ⟨rfl,List.prefix_refl _⟩
   ·simp only [List.cons_append,List.nil_append,w_mVar0,w_mVarS]
    exact ⟨trivial,List.prefix_refl _⟩
   ·rw [filter_PP fun q=>!(q.1 == p.1&&(q.2 == p.2&&true))] at g2
    generalize hF:fs.filter (fun q=>!(q.1 == p.1&&(q.2 == p.2&&true)))=F at g2
    have hFl:F.length<=48:=by rw [<- hF];exact Nat.le_trans (List.length_filter_le _ _) hfl
    simp only [w_mLst,w_mCons,w_mNil,w_mVar0,w_mVarS]
    refine ⟨by show (1:Nat)<=sizeLine;decide,?_⟩
    refine (w_inP (pre_get (p2.trans (pre_snoc _ _)) hb1)).mpr ?_
    simp only [w_intB,if_true]
    generalize hB:(!(fs.any fun q=>q == p))=B
    refine (w_mulL (get_last _ _)).mpr ?_
    have e2:(if B=true then [PP p] else [])=(if B=true then [p] else []).map PP:=by cases B<;>rfl
    rw [e2]
    have g3:=pre_get ((pre_snoc μ2 (C.lst [PP p])).trans (pre_snoc _ (C.lst ((if B=true then [p] else []).map PP)))) g2
    have hBl:(if B=true then [p] else ([]:List (Int×Int))).length<=1:=by cases B<;>simp
    refine (w_addL g3 (get_last _ _) (by rw [Zl,Zl,sizeLine_eq];omega)).mpr ?_
    rw [<- List.map_append]
    refine w_sortP (get_last _ _) (by rw [List.length_append];omega) fun qs hqs=>?_
    simp only [w_mRet,w_mVar0,w_mVarS]
    refine H _ qs _ _ (p1.trans (p2.trans ((pre_snoc _ _).trans ((pre_snoc _ _).trans ((pre_snoc _ _).trans (pre_snoc _ _)))))) (get_last _ _) ?_
    rw [hqs.length_eq,List.length_append]
    omega
theorem s_creased (k:Nat)(ns:List Int){w h:Int}(hw:1<=w/\w<=3)(hh:1<=h/\h<=3)(c:Nat)(ws:List Int)(hws:ws≠[])(μ:Hm)(hc:μ[c]? = some (.lst (ws.map D.int)))(Q:D×Hm->Prop)
  (H:∀ b (fs:List (Int×Int)) μ',μ <+: μ'->μ'[b]? = some (.lst (fs.map PP))->fs.length<=49->Q (.loc b,μ')):W (f (k+3) "_law_creased" [.rol (ns.map D.int),.int w,.int h,.loc c] μ) Q:=by
 have F:=facts9 w (mem3 hw) h (mem3 hh)
 have hwl:0<ws.length:=List.length_pos_iff.mpr hws
 rw [ev_w_creased,W_fin,w_mSeq,w_mSet]
 simp only [w_mCall,w_mCons,w_mNil,w_mVar0,w_mVarS]
 refine s_inner (k+1) w h hw hh _ _ ?_
 generalize hμ:μ++[C.lst ((innerZ w h).map PP)]=μ1
 have p1:μ <+: μ1:=by rw [<- hμ];exact pre_snoc _ _
 have he1:μ1[μ.length]? = some (.lst ((innerZ w h).map PP)):=by rw [<- hμ];exact get_last _ _
 dsimp only [List.set_cons_zero,List.set_cons_succ]
 rw [w_mSeq,w_mSet]
 simp only [w_mOp,w_mCall,w_mCons,w_mNil,w_mVar0,w_mVarS,w_mC]
 refine s_cell (k+1) ns 1 (by decide) _ _ fun μ2 p2=>?_
 refine (w_lenL (pre_get (p1.trans p2) hc)).mpr ?_
 rw [Zl]
 refine (w_modI (by omega)).mpr ?_
 have hm:0<=cellV ns 1 % (ws.length:Int)/\cellV ns 1 % (ws.length:Int)<ws.length:=⟨Int.emod_nonneg _ (by omega),Int.emod_lt_of_pos _ (by omega)⟩
 refine (w_itL (pre_get (p1.trans p2) hc) (at_ok hm.1 hm.2)).mpr ?_
 generalize ws.getD (cellV ns 1 % (ws.length:Int)).toNat 0=v
 dsimp only [List.set_cons_zero,List.set_cons_succ]
 rw [w_mSeq,w_mSet]
 simp only [w_mCall,w_mCons,w_mNil,w_mVar0,w_mVarS,w_mC]
 refine s_cell (k+1) ns 2 (by decide) _ _ fun μ3 p3=>?_
 generalize cellV ns 2=n
 dsimp only [List.set_cons_zero,List.set_cons_succ]
 have q3:=p1.trans (p2.trans p3)
 have he3:=pre_get (p2.trans p3) he1
 rw [w_mSeq,w_mIfS]
 simp only [w_mTest,w_mOp,w_mVar0,w_mVarS,w_mC,w_eqI]
 cases h3:v == 3 with
 | true=>
  simp only [if_true,w_mRet,w_mCall,w_mCons,w_mNil,w_mVar0,w_mVarS]
  exact s_by_lines k _ (innerZ w h) (by have:=F.2.1;omega) n _ he3 _ fun b fs μ4 p4 g4 l4=>H b fs μ4 (q3.trans p4) g4 (by have:=F.2.1;omega)
 | false=>
  simp only [Bool.false_eq_true,if_false,w_mNext]
  rw [w_mSeq,w_mIfS]
  simp only [w_mTest,w_mOp,w_mVar0,w_mVarS,w_mC,w_eqI]
  cases h4:v == 4 with
  | true=>
   simp only [if_true]
   exact cr_each (k+1) ns w h c _ v n (innerZ w h) F.2.1 _ he3 _ fun b fs ρ μ4 p4 g4 l4=>H b fs μ4 (q3.trans p4) g4 l4
  | false=>
   simp only [Bool.false_eq_true,if_false,w_mNext]
   rw [w_mSeq,w_mSet]
   simp only [w_mCall,w_mCons,w_mNil,w_mVar0,w_mVarS]
   refine w_comp (xs:=rngD 0 (n % 6).toNat) (p:=fun _=>true) (v:=fun d=>.int (cellV ns (3+unI d))) ?_
   rw [w_iRng1 (j:=0)]
   simp only [w_mCons,w_mNil,w_mOp,w_mVar0,w_mVarS,w_mC,w_mod6]
   have h6:0<=n % 6/\n % 6<6:=⟨Int.emod_nonneg _ (by decide),Int.emod_lt_of_pos _ (by decide)⟩
   refine ⟨by omega,src_rng,by simp [rngD],by rw [sizeLine_eq];simp [rngD];omega,fun d μ' hd hp=>w_mTrue.mpr ⟨rfl,List.prefix_refl _⟩,fun d μ' hd _ hp=>?_,fun μ4 p4 g4=>?_⟩
   ·obtain ⟨j,hj,rfl⟩:=mem_rng hd
    simp only [List.cons_append,List.nil_append,w_mCall,w_mCons,w_mNil,w_mVar0,w_mVarS,w_mOp,w_mC,w_addI]
    exact s_cell (k+1) ns _ (by omega) _ _ fun μ'' p''=>⟨rfl,p''⟩
   ·have g4':μ4[μ3.length]? = some (.lst (((rngD 0 (n % 6).toNat).map fun d=>cellV ns (3+unI d)).map D.int)):=by
     rw [g4,filter_all,List.map_map]
     rfl
    refine s_grown k hw hh _ _ _ g4' _ fun μ5 G=>?_
    dsimp only [List.set_cons_zero,List.set_cons_succ]
    refine cr_found (k+1) ns hw hh c _ v n μ4 μ5 G (pre_get (p4.trans G.1) he3) _ _ fun fs o9 o13 o14 μ6 p6 g6 l6=>?_
    exact cr_one ns w h c _ _ v n o9 _ o13 o14 (innerZ w h) fs F.2.1 l6 _ (pre_get (p4.trans (G.1.trans p6)) he3) g6 _ fun b fs' ρ μ7 p7 g7 l7=>H b fs' μ7 (q3.trans (p4.trans (G.1.trans (p6.trans p7)))) g7 l7
noncomputable def MD (m:(Int×Int)×Str):D:=.tup [PP m.1,.str m.2]
theorem hvo_at {i:Int}(h:0<=i/\i<3):∃ c,atI (Str.ofString "hvo").cps.toList i=some c:=by
 have:i=0\/i=1\/i=2:=by omega
 rcases this with rfl|rfl|rfl
 ·exact ⟨104,by decide +kernel⟩
 ·exact ⟨118,by decide +kernel⟩
 ·exact ⟨111,by decide +kernel⟩
theorem hvo_len:(Str.ofString "hvo").length<=sizeLine:=by decide +kernel
theorem len3:(3:Nat)<=sizeLine:=by decide
theorem w_itHvo {i:Int}(h:0<=i/\i<3){μ:Hm}{Q:D×Hm->Prop}(H:∀ s,Q (.str s,μ)):W (itD (.str "hvo") (.int i) μ) Q:=by
 obtain ⟨c,hc⟩:=hvo_at h
 exact (w_itSt hvo_len hc).mpr (H _)
theorem s_sheet_by_digits (k:Nat)(ns:List Int){w h:Int}(hw:1<=w/\w<=3)(hh:1<=h/\h<=3)(μ:Hm)(Q:D×Hm->Prop)(H:∀ (ms:List ((Int×Int)×Str)) μ',μ <+: μ'->ms.length<=49->Q (.tup [.int w,.int h,.tup (ms.map MD)],μ')):W (f (k+2) "_law_sheet_by_digits" [.rol (ns.map D.int),.int w,.int h] μ) Q:=by
 have F:=facts9 w (mem3 hw) h (mem3 hh)
 rw [ev_w_sheet_by_digits,W_fin]
 simp only [w_mSeq,w_mSet,w_mCall,w_mCons,w_mNil,w_mVar0,w_mVarS,w_mC]
 refine s_cell k ns 61 (by decide) _ _ fun μ1 p1=>?_
 generalize cellV ns 61=n
 simp only [w_mLst,w_mNil,List.set_cons_zero,List.set_cons_succ]
 refine ⟨Nat.zero_le _,?_⟩
 simp only [w_mForI,w_iSeq,w_mCall,w_mCons,w_mNil,w_mVar0,w_mVarS]
 refine s_inner k w h hw hh _ _ ?_
 refine (w_seqL (get_last _ _)).mpr ?_
 have hlen:(μ1++[C.lst []]).length=μ1.length+1:=by simp
 refine w_forL (xs:=(innerZ w h).map PP) (fun i ρ μ'=>μ1 <+: μ'/\μ'[(μ1++[C.lst []]).length]? = some (.lst ((innerZ w h).map PP))/\∃ (ms:List ((Int×Int)×Str))(n:Int)(o5:Option D),μ'[μ1.length]? = some (.lst (ms.map MD))/\ms.length<=i/\i<=(innerZ w h).length/\ρ=[some (.rol (ns.map D.int)),some (.int w),some (.int h),some (.int n),some (.loc μ1.length),o5]) ⟨(pre_snoc _ _).trans (pre_snoc _ _),get_last _ _,[],n,none,pre_get (pre_snoc _ _) (get_last _ _),Nat.le_refl _,Nat.zero_le _,rfl⟩ (fun i ρ μ' hI=>hI.2.1) ?_ ?_
 ·rintro i d ρ μ2 hd ⟨hp,hg2,ms,n,o5,hg,hf,_,rfl⟩
  obtain ⟨q,hq,rfl⟩:=get_PP hd
  have hi:i<(innerZ w h).length:=(Zg.mp hq).1
  refine ⟨_,rfl,?_⟩
  simp only [List.set_cons_zero,List.set_cons_succ,w_mSeq,w_mIfS,w_mTest,w_mOp,w_mVar0,w_mVarS,w_mC,w_mod4,w_gtI]
  have h4:0<=n % 4/\n % 4<4:=⟨Int.emod_nonneg _ (by decide),Int.emod_lt_of_pos _ (by decide)⟩
  by_cases h0:0<n % 4
  ·simp only [h0,decide_true,if_true,w_mDrop]
   refine w_mMeth ?_
   simp only [w_mVar0,w_mVarS]
   refine ⟨isLst_loc hg,?_⟩
   simp only [w_mCons,w_mNil,w_mTup,w_mVar0,w_mVarS,w_mOp,w_mC,w_mod4,w_subI]
   refine w_itHvo (by omega) fun s=>?_
   refine ⟨len2,?_⟩
   refine (w_append hg (by have:=F.2.1;rw [Zl,sizeLine_eq];omega)).mpr ?_
   simp only [w_mSet,w_mOp,w_mVar0,w_mVarS,w_mC]
   refine (w_fdivI (by decide) (by decide)).mpr ?_
   refine ⟨pre_set hp (Nat.le_refl _) _,?_,ms++[(q,s)],_,_,?_,by rw [List.length_append];exact Nat.succ_le_succ hf,hi,rfl⟩
   ·rw [set_other (by omega)]
    exact hg2
   ·rw [set_get hg,List.map_append]
    rfl
  ·simp only [h0,decide_false,Bool.false_eq_true,if_false,w_mNext,w_mSet,w_mOp,w_mVar0,w_mVarS,w_mC]
   refine (w_fdivI (by decide) (by decide)).mpr ?_
   exact ⟨hp,hg2,ms,_,_,hg,Nat.le_succ_of_le hf,hi,rfl⟩
 ·rintro ρ μ2 ⟨hp,hg2,ms,n,o5,hg,hf,_,rfl⟩
  simp only [w_mRet,w_mTup,w_mCons,w_mNil,w_mVar0,w_mVarS,w_mCall]
  refine (w_tupL hg).mpr ⟨len3,?_⟩
  exact H ms _ (p1.trans hp) (by have:=F.2.1;rw [Zl] at hf;omega)
noncomputable def mirL (k:Int)(p:Int×Int):Int×Int:=if k=0 then (p.1,-p.2) else if k=1 then (-p.1,p.2) else if k=2 then (p.2,p.1) else (-p.2,-p.1)
noncomputable def nOf (k x y:Int):Int:=if k=0 then y else if k=1 then x else if k=2 then x - y else x+y
theorem mir_lin (k x y:Int)(p:Int×Int):mirZ (x+p.1,y+p.2) (k,nOf k x y)=(x+(mirL k p).1,y+(mirL k p).2):=by
 unfold mirZ mirL nOf
 dsimp only
 by_cases h0:k=0
 ·simp only [h0,if_true]
  exact Prod.ext rfl (by dsimp only;omega)
 ·by_cases h1:k=1
  ·subst h1
   simp only [if_true,h0,if_false]
   exact Prod.ext (by dsimp only;omega) rfl
  ·by_cases h2:k=2
   ·subst h2
    simp only [if_true,h0,h1,if_false]
    exact Prod.ext (by dsimp only;omega) (by dsimp only;omega)
   ·simp only [h0,h1,h2,if_false]
    exact Prod.ext (by dsimp only;omega) (by dsimp only;omega)
noncomputable def foldM (m:Int×Int->Bool)(es:List (Int×Int))(p:Int×Int):Int×Int:=es.foldl (fun p e=>if m e then mirZ p (lineZ e.1 e.2) else p) p
noncomputable def foldB:List Int->List Bool->Int×Int->Int×Int
 | k::ks,b::bs,p=>foldB ks bs (if b then mirL k p else p)
 | _,_,p=>p
theorem fold_lin (m:Int×Int->Bool)(x y:Int):∀ (l:List (Int×Int))(ks:List Int)(p:Int×Int),ks.length=l.length->(∀ q∈l.zip ks,lineZ (x+q.1.1) (y+q.1.2)=(q.2,nOf q.2 x y))->
  foldM m (mv x y l) (x+p.1,y+p.2)=(x+(foldB ks ((mv x y l).map m) p).1,y+(foldB ks ((mv x y l).map m) p).2)
 | [],[],p,_,_=>rfl
 | [],_::_,_,h,_=>by simp at h
 | _::_,[],_,h,_=>by simp at h
 | o::l,k::ks,p,h,hl=>by
  have h1:=hl (o,k) (by simp)
  have ih:=fun p=>fold_lin m x y l ks p (by simpa using h) fun q hq=>hl q (by rw [List.zip_cons_cons];exact List.mem_cons_of_mem _ hq)
  unfold foldM mv at ih ⊢
  simp only [List.map_cons,List.foldl_cons,foldB]
  dsimp only at h1
  cases hm:m (x+o.1,y+o.2) with
  | true=>
   simp only [if_true]
   rw [h1,mir_lin]
   exact ih _
  | false=>
   simp only [Bool.false_eq_true,if_false]
   exact ih p
noncomputable def K8:List Int:=[0,2,1,3,0,2,1,3]
noncomputable def K4:List Int:=[2,3,2,3]
theorem lines8 {x y:Int}(hx:x % 4=0)(hy:y % 4=0):∀ q∈E8.zip K8,lineZ (x+q.1.1) (y+q.1.2)=(q.2,nOf q.2 x y):=by
 have e:∀ {a b:Int}{k n:Int},(if b % 4=0 then (0,b) else if a % 4=0 then (1,a) else if a % 4=b % 4 then (2,a - b) else (3,a+b):Int×Int)=(k,n)->lineZ a b=(k,n):=fun h=>h
 intro q hq
 simp only [E8,K8,List.zip_cons_cons,List.zip_nil_right,List.mem_cons,List.not_mem_nil,or_false] at hq
 rcases hq with rfl|rfl|rfl|rfl|rfl|rfl|rfl|rfl<;>refine e ?_<;>dsimp only [nOf]
 ·rw [if_pos (by omega)];exact Prod.ext rfl (by simp)
 ·rw [if_neg (by omega),if_neg (by omega),if_pos (by omega)];exact Prod.ext rfl (by simp<;>omega)
 ·rw [if_neg (by omega),if_pos (by omega)];exact Prod.ext rfl (by simp)
 ·rw [if_neg (by omega),if_neg (by omega),if_neg (by omega)];exact Prod.ext rfl (by simp<;>omega)
 ·rw [if_pos (by omega)];exact Prod.ext rfl (by simp)
 ·rw [if_neg (by omega),if_neg (by omega),if_pos (by omega)];exact Prod.ext rfl (by simp<;>omega)
 ·rw [if_neg (by omega),if_pos (by omega)];exact Prod.ext rfl (by simp)
 ·rw [if_neg (by omega),if_neg (by omega),if_neg (by omega)];exact Prod.ext rfl (by simp<;>omega)
theorem lines4 {x y:Int}(hx:x % 4=2)(hy:y % 4=2):∀ q∈F4.zip K4,lineZ (x+q.1.1) (y+q.1.2)=(q.2,nOf q.2 x y):=by
 have e:∀ {a b:Int}{k n:Int},(if b % 4=0 then (0,b) else if a % 4=0 then (1,a) else if a % 4=b % 4 then (2,a - b) else (3,a+b):Int×Int)=(k,n)->lineZ a b=(k,n):=fun h=>h
 intro q hq
 simp only [F4,K4,List.zip_cons_cons,List.zip_nil_right,List.mem_cons,List.not_mem_nil,or_false] at hq
 rcases hq with rfl|rfl|rfl|rfl<;>refine e ?_<;>dsimp only [nOf]
 ·rw [if_neg (by omega),if_neg (by omega),if_pos (by omega)];exact Prod.ext rfl (by simp<;>omega)
 ·rw [if_neg (by omega),if_neg (by omega),if_neg (by omega)];exact Prod.ext rfl (by simp<;>omega)
 ·rw [if_neg (by omega),if_neg (by omega),if_pos (by omega)];exact Prod.ext rfl (by simp<;>omega)
 ·rw [if_neg (by omega),if_neg (by omega),if_neg (by omega)];exact Prod.ext rfl (by simp<;>omega)
noncomputable def D3:List (Int×Int):=[(0,0),(2,1),(1,-2)]
noncomputable def backB (m:Int×Int->Bool)(x y:Int):Bool:=D3.all fun d=>foldM m (mv x y (eOf x)) (x+d.1,y+d.2) == (x+d.1,y+d.2)
noncomputable def backb (ks:List Int)(bs:List Bool):Bool:=D3.all fun d=>foldB ks bs d == d
noncomputable def ixT (bs:List Bool):List Int:=((List.range bs.length).filter fun i=>bs.getD i false).map fun (i:Nat)=>(i:Int)
noncomputable def gapsB (bs:List Bool):List Int:=((ixT bs).zip ((ixT bs).drop 1++((ixT bs).take 1).map fun s=>s+(bs.length:Int))).map fun p=>(p.2 - p.1) * (8 / (bs.length:Int))
theorem back8:∀ a b c d e g h i:Bool,goodB (gapsB [a,b,c,d,e,g,h,i])=backb K8 [a,b,c,d,e,g,h,i]:=by decide +kernel
theorem back4:∀ a b c d:Bool,goodB (gapsB [a,b,c,d])=backb K4 [a,b,c,d]:=by decide +kernel
theorem back_lin {m:Int×Int->Bool}{x y:Int}{l:List (Int×Int)}{ks:List Int}(he:eOf x=l)(hk:ks.length=l.length)(hl:∀ q∈l.zip ks,lineZ (x+q.1.1) (y+q.1.2)=(q.2,nOf q.2 x y)):backB m x y=backb ks ((mv x y l).map m):=by
 unfold backB backb
 rw [he]
 congr 1
 funext d
 rw [fold_lin m x y l ks d hk hl]
 generalize foldB ks ((mv x y l).map m) d=q
 rw [Bool.eq_iff_iff]
 simp only [beq_iff_eq,Prod.ext_iff]
 omega
theorem good_back {m:Int×Int->Bool}{x y:Int}(hx:x % 2=0)(hxy:x % 4=y % 4):goodB (gapsB ((mv x y (eOf x)).map m))=backB m x y:=by
 by_cases h:x % 4=0
 ·have he:eOf x=E8:=by unfold eOf;rw [if_pos h]
  rw [back_lin he rfl (lines8 h (by omega)),he]
  exact back8 _ _ _ _ _ _ _ _
 ·have he:eOf x=F4:=by unfold eOf;rw [if_neg h]
  rw [back_lin he rfl (lines4 (by omega) (by omega)),he]
  exact back4 _ _ _ _
noncomputable def isC (p:Int×Int):Bool:=p.1 % 2 == 0&&p.1 % 4 == p.2 % 4
theorem s_is_corner (k:Nat)(x y:Int)(μ:Hm)(Q:D×Hm->Prop):W (f (k+1) "is_corner" [P x y] μ) Q↔Q (.bl (isC (x,y)),μ):=by
 rw [ev_p_is_corner,W_fin]
 simp only [w_mRet,w_mAndV,w_mOp,w_mC,w_mVar0,w_it20,w_it21,w_eqI,w_mod2,w_mod4]
 unfold isC
 cases x % 2 == 0<;>simp
theorem s_corners_in (k:Nat)(w h:Int)(hw:1<=w/\w<=3)(hh:1<=h/\h<=3)(μ:Hm)(Q:D×Hm->Prop)(H:∀ a μ',μ <+: μ'->μ'[a]? = some (.lst (((placesZ w h).filter isC).map PP))->Q (.loc a,μ')):W (f (k+2) "corners_in" [.int w,.int h] μ) Q:=by
 rw [ev_p_corners_in,W_fin]
 simp only [w_mRet]
 refine w_comp (xs:=(placesZ w h).map PP) (p:=fun d=>isC (unP d)) (v:=fun d=>d) ?_
 simp only [w_iSeq,w_mCall,w_mCons,w_mNil,w_mVar0,w_mVarS]
 refine s_places_within _ w h (by omega) (by omega) _ _ fun a μ1 p1 g1 l1=>?_
 refine (w_seqL g1).mpr ⟨src_loc g1,rfl,?_,fun d μ' hd hp=>?_,fun d μ' hd _ hp=>?_,fun μ' hp hg=>?_⟩
 ·have:=places_len (w:=w) (h:=h) (by omega) (by omega)
  rw [Zl,sizeLine_eq];omega
 ·obtain ⟨u,v,rfl⟩:=mem_PP hd
  simp only [List.cons_append,List.nil_append,w_mTru,w_mCall,w_mCons,w_mNil,w_mVar0,w_mVarS,s_is_corner,w_truB]
  exact ⟨rfl,List.prefix_refl _⟩
 ·simp only [List.cons_append,List.nil_append,w_mVar0,w_mVarS]
  exact ⟨trivial,List.prefix_refl _⟩
 ·refine H _ _ (p1.trans hp) ?_
  rw [hg,filter_PP isC]
noncomputable def inM (ms:List ((Int×Int)×Str))(p:Int×Int):Bool:=(ms.map (·.1)).any fun q=>q == p
theorem pairs_MD:∀ ms:List ((Int×Int)×Str),pairsD (ms.map MD)=some (ms.map fun m=>(keyP m.1,D.str m.2))
 | []=>rfl
 | m::ms=>by
  rw [List.map_cons,List.map_cons]
  show (keyT (PP m.1)).bind (fun k=>(pairsD (ms.map MD)).map fun l=>(k,D.str m.2)::l)=_
  rw [pairs_MD ms]
  rfl
theorem fold_some (k:List Int):∀ (l kvs:List (List Int×D)),(valDT (l.foldl (fun q p=>putDT q p.1 p.2) kvs) k).isSome=((valDT kvs k).isSome||l.any fun p=>decide (p.1=k))
 | [],kvs=>by simp
 | p::l,kvs=>by
  rw [List.foldl_cons,fold_some k l,put_some,List.any_cons]
  cases decide (p.1=k)<;>cases (valDT kvs k).isSome<;>simp
theorem key_eq (p q:Int×Int):decide (keyP p=keyP q)=(p == q):=by
 rw [Bool.eq_iff_iff]
 simp only [decide_eq_true_eq,beq_iff_eq,keyP,List.cons.injEq,and_true,Prod.ext_iff]
theorem marks_some (ms:List ((Int×Int)×Str))(p:Int×Int):(valDT ((ms.map fun m=>(keyP m.1,D.str m.2)).foldl (fun q p=>putDT q p.1 p.2) []) (keyP p)).isSome=inM ms p:=by
 rw [fold_some]
 unfold inM
 rw [List.any_map,List.any_map]
 show (false||_)=_
 rw [Bool.false_or]
 congr 1
 funext m
 exact key_eq m.1 p
theorem w_it32 {a b c:D}{μ:Hm}{Q:D×Hm->Prop}:W (itD (.tup [a,b,c]) (.int 2) μ) Q↔Q (c,μ):=W_some
theorem w_it30 {a b c:D}{μ:Hm}{Q:D×Hm->Prop}:W (itD (.tup [a,b,c]) (.int 0) μ) Q↔Q (a,μ):=W_some
theorem w_it31 {a b c:D}{μ:Hm}{Q:D×Hm->Prop}:W (itD (.tup [a,b,c]) (.int 1) μ) Q↔Q (b,μ):=W_some
noncomputable abbrev SH (w h:Int)(ms:List ((Int×Int)×Str)):D:=.tup [.int w,.int h,.tup (ms.map MD)]
theorem w_dict {ms:List ((Int×Int)×Str)}{μ:Hm}{Q:D×Hm->Prop}:W (dictM [.tup (ms.map MD)] μ) Q↔Q (.loc μ.length,μ++[.dT ((ms.map fun m=>(keyP m.1,D.str m.2)).foldl (fun q p=>putDT q p.1 p.2) [])]):=by
 have:dictM [.tup (ms.map MD)] μ=some (.loc μ.length,μ++[.dT ((ms.map fun m=>(keyP m.1,D.str m.2)).foldl (fun q p=>putDT q p.1 p.2) [])]):=by
  simp only [dictM,pairs_MD,Option.map_some]
 rw [this]
 exact W_some
theorem s_creases_at (k:Nat)(w h:Int)(ms:List ((Int×Int)×Str))(x y:Int)(μ:Hm)(Q:D×Hm->Prop)(H:∀ a μ',μ <+: μ'->μ'[a]? = some (.lst (((mv x y (eOf x)).filter (inM ms)).map PP))->Q (.loc a,μ')):W (f (k+3) "creases_at" [SH w h ms,P x y] μ) Q:=by
 rw [ev_p_creases_at,W_fin]
 simp only [w_mSeq,w_mSet,w_mCall,w_mCons,w_mNil,w_mVar0,w_mVarS]
 rw [ev_p_marks_in,W_fin]
 simp only [w_mRet,w_mCall,w_mCons,w_mNil,w_mOp,w_mVar0,w_mC,w_it32,w_dict,List.set_cons_zero,List.set_cons_succ]
 refine w_comp (xs:=(mv x y (eOf x)).map PP) (p:=fun d=>inM ms (unP d)) (v:=fun d=>d) ?_
 simp only [w_iSeq,w_mCall,w_mCons,w_mNil,w_mVar0,w_mVarS]
 refine s_edges_round k x y _ _ fun a μ1 p1 g1 l1=>?_
 refine (w_seqL g1).mpr ⟨src_loc g1,rfl,?_,fun d μ' hd hp=>?_,fun d μ' hd _ hp=>?_,fun μ' hp hg=>?_⟩
 ·rw [Zl,sizeLine_eq]
  unfold mv eOf
  rw [Zl]
  split<;>decide
 ·obtain ⟨u,v,rfl⟩:=mem_PP hd
  simp only [List.cons_append,List.nil_append,w_mTest,w_mOp,w_mVar0,w_mVarS]
  refine (w_inT (pre_get (p1.trans hp) (get_last _ _)) (keyT_PP (u,v))).mpr ?_
  simp only [Bool.false_eq_true,if_false]
  exact ⟨marks_some ms (u,v),List.prefix_refl _⟩
 ·simp only [List.cons_append,List.nil_append,w_mVar0,w_mVarS]
  exact ⟨trivial,List.prefix_refl _⟩
 ·refine H _ _ ((pre_snoc _ _).trans (p1.trans hp)) ?_
  rw [hg,filter_PP (inM ms)]
theorem eqAll_PP (μ:Hm)(q:Int×Int):∀ ps:List (Int×Int),eqAll μ (PP q) (ps.map PP)=some (ps.map fun p=>p == q)
 | []=>rfl
 | p::ps=>by
  rw [List.map_cons,List.map_cons]
  simp only [eqAll,eqAll_PP μ q ps]
  rw [eq_PP 6]
  rfl
theorem w_indexP {μ:Hm}{a:Nat}{ps:List (Int×Int)}{q:Int×Int}{Q:D×Hm->Prop}(h:μ[a]? = some (.lst (ps.map PP)))(hq:q∈ps)(hz:ps.length<=sizeLine):W (indexM (.loc a) [PP q] μ) Q↔Q (.int (ps.idxOf q:Nat),μ):=by
 have e:(ps.map fun p=>p == q).findIdx id=ps.idxOf q:=by
  rw [List.findIdx_map];rfl
 have hl:ps.idxOf q<ps.length:=List.idxOf_lt_length_of_mem hq
 simp only [indexM,h,eqAll_PP,Option.bind_some]
 rw [e,Zl,if_pos ⟨hl,hz⟩]
 exact W_some
theorem idx_getD {es:List (Int×Int)}(hn:es.Nodup){i:Nat}(hi:i<es.length):es.idxOf (es.getD i (0,0))=i:=by
 have e:es.getD i (0,0)=es[i]:=by simp [List.getD,hi]
 rw [e]
 have hl:es.idxOf es[i]<es.length:=List.idxOf_lt_length_of_mem (List.getElem_mem hi)
 have h1:es[es.idxOf es[i]]=es[i]:=List.getElem_idxOf hl
 rcases Nat.lt_trichotomy (es.idxOf es[i]) i with h|h|h
 ·exact absurd h1 ((List.pairwise_iff_getElem.mp hn) _ i hl hi h)
 ·exact h
 ·exact absurd h1.symm ((List.pairwise_iff_getElem.mp hn) i _ hi hl h)
theorem ix_is {es:List (Int×Int)}(hn:es.Nodup)(m:Int×Int->Bool):(es.filter m).map (fun q=>((es.idxOf q:Nat):Int))=ixT (es.map m):=by
 have h1:es.filter m=((List.range es.length).filter fun i=>m (es.getD i (0,0))).map fun i=>es.getD i (0,0):=by
  conv=>lhs;rw [<- range_getD es (0,0)]
  rw [List.filter_map]
  rfl
 unfold ixT
 rw [h1,List.map_map,Zl]
 have h2:(List.range es.length).filter (fun i=>m (es.getD i (0,0)))=(List.range es.length).filter fun i=>(es.map m).getD i false:=by
  refine List.filter_congr fun i hi=>?_
  have hi:=List.mem_range.mp hi
  simp [List.getD,hi]
 rw [<- h2]
 refine List.map_congr_left fun i hi=>?_
 have hi:=List.mem_range.mp (List.mem_filter.mp hi).1
 show ((es.idxOf (es.getD i (0,0)):Nat):Int)=_
 rw [idx_getD hn hi]
theorem mv_nodup (x y:Int){l:List (Int×Int)}(h:l.Nodup):(mv x y l).Nodup:=by
 unfold mv
 show List.Pairwise _ _
 rw [List.pairwise_map]
 refine List.Pairwise.imp (fun {a b} hab e=>hab ?_) h
 simp only [Prod.ext_iff] at e ⊢
 omega
theorem eOf_nodup (x:Int):(eOf x).Nodup:=by
 unfold eOf
 split<;>decide
theorem eOf_len (x:Int):(eOf x).length=8\/(eOf x).length=4:=by
 unfold eOf
 split
 ·exact .inl rfl
 ·exact .inr rfl
theorem cut_1n (is:List Int):cutD (is.map D.int) (some 1) none=(is.drop 1).map D.int:=by
 cases is with
 | nil=>rfl
 | cons a l=>
  unfold cutD
  rw [show (1:Int)=((1:Nat):Int) from rfl,HT.sIx_nat,HT.sIx_none,Zl,Nat.min_eq_left (by simp),<- List.map_drop,List.take_of_length_le (by rw [Zl,List.length_drop];omega)]
theorem cut_n1 (is:List Int):cutD (is.map D.int) none (some 1)=(is.take 1).map D.int:=by
 cases is with
 | nil=>rfl
 | cons a l=>
  unfold cutD
  rw [show (1:Int)=((1:Nat):Int) from rfl,HT.sIx_nat,HT.sIx_none,Zl,Nat.min_eq_left (by simp),List.drop_zero,Nat.sub_zero,List.map_take]
noncomputable def zipD (is js:List Int):List D:=(is.zip js).map PP
theorem src_zip {μ:Hm}{a b:Nat}{is js:List Int}(ha:μ[a]? = some (.lst (is.map D.int)))(hb:μ[b]? = some (.lst (js.map D.int))):∀ μ' i,μ <+: μ'->srcZip (.loc a) (.loc b) μ' i=some (zipD is js)[i]?:=fun μ' i hp=>by
 simp only [srcZip,seqD,pre_get hp ha,pre_get hp hb,Option.bind_some,Option.map_some]
 unfold zipD List.zip
 rw [List.getElem?_map,List.getElem?_map,List.getElem?_map,List.getElem?_zipWith]
 cases is[i]?<;>cases js[i]?<;>rfl
theorem s_gaps_at (k:Nat)(w h:Int)(ms:List ((Int×Int)×Str))(x y:Int)(μ:Hm)(Q:D×Hm->Prop)(H:∀ a μ',μ <+: μ'->μ'[a]? = some (.lst ((gapsB ((mv x y (eOf x)).map (inM ms))).map D.int))->Q (.loc a,μ')):W (f (k+4) "gaps_at" [SH w h ms,P x y] μ) Q:=by
 have hel:=eOf_len x
 have hml:(mv x y (eOf x)).length=(eOf x).length:=by unfold mv;rw [Zl]
 have hnd:=mv_nodup x y (eOf_nodup x)
 rw [ev_p_gaps_at,W_fin]
 simp only [w_mSeq,w_mSet,w_mCall,w_mCons,w_mNil,w_mVar0,w_mVarS]
 refine s_edges_round (k+1) x y _ _ fun a1 μ1 p1 g1 l1=>?_
 simp only [List.set_cons_zero,List.set_cons_succ,w_mVar0,w_mVarS]
 refine s_creases_at k w h ms x y _ _ fun a2 μ2 p2 g2=>?_
 simp only [List.set_cons_zero,List.set_cons_succ]
 have g12:=pre_get p2 g1
 generalize hes:mv x y (eOf x)=es at g12 g2 hml hnd H
 have hfl:(es.filter (inM ms)).length<=8:=Nat.le_trans (List.length_filter_le _ _) (by omega)
 refine w_comp (xs:=(es.filter (inM ms)).map PP) (p:=fun _=>true) (v:=fun d=>.int ((es.idxOf (unP d):Nat):Int)) ?_
 simp only [w_iSeq,w_mVar0,w_mVarS]
 refine (w_seqL g2).mpr ⟨src_loc g2,rfl,by rw [Zl,sizeLine_eq];omega,fun d μ' hd hp=>w_mTrue.mpr ⟨rfl,List.prefix_refl _⟩,fun d μ' hd _ hp=>?_,fun μ3 p3 g3=>?_⟩
 ·obtain ⟨q,hq,rfl⟩:=List.mem_map.mp hd
  refine w_mMeth ?_
  simp only [List.cons_append,List.nil_append,w_mVar0,w_mVarS]
  refine ⟨isLst_loc (pre_get hp g12),?_⟩
  simp only [w_mCons,w_mNil,w_mVar0,w_mVarS]
  exact (w_indexP (pre_get hp g12) (List.mem_filter.mp hq).1 (by rw [sizeLine_eq];omega)).mpr ⟨rfl,List.prefix_refl _⟩
 ·have g3':μ3[μ2.length]? = some (.lst ((ixT (es.map (inM ms))).map D.int)):=by
   rw [g3,filter_all,List.map_map,<- ix_is hnd,List.map_map]
   rfl
  have hil:(ixT (es.map (inM ms))).length<=8:=by
   rw [<- ix_is hnd,Zl]
   exact hfl
  generalize hix:ixT (es.map (inM ms))=is at g3' hil
  simp only [w_mOp]
  refine w_sliceL ?_
  simp only [w_mVar0,w_mVarS,w_mPart,w_mC,w_mNoPart]
  refine ⟨_,rfl,_,g3',?_⟩
  rw [cut_1n]
  have g4:=pre_get (pre_snoc μ3 (C.lst ((is.drop 1).map D.int))) g3'
  have g4e:=pre_get (p3.trans (pre_snoc μ3 (C.lst ((is.drop 1).map D.int)))) g12
  refine w_comp (xs:=(is.take 1).map D.int) (p:=fun _=>true) (v:=fun d=>.int (unI d+(es.length:Int))) ?_
  simp only [w_iSeq]
  refine w_sliceL ?_
  simp only [w_mVar0,w_mVarS,w_mPart,w_mC,w_mNoPart]
  refine ⟨_,rfl,_,g4,?_⟩
  rw [cut_n1]
  refine (w_seqL (get_last _ _)).mpr ⟨src_loc (get_last _ _),rfl,by rw [Zl,List.length_take,sizeLine_eq];omega,fun d μ' hd hp=>w_mTrue.mpr ⟨rfl,List.prefix_refl _⟩,fun d μ' hd _ hp=>?_,fun μ5 p5 g5=>?_⟩
  ·obtain ⟨i,_,rfl⟩:=mem_ints hd
   simp only [List.cons_append,List.nil_append,w_mOp,w_mVar0,w_mVarS,w_mCall,w_mCons,w_mNil]
   refine (w_lenL (pre_get ((pre_snoc _ _).trans hp) g4e)).mpr ?_
   simp only [w_addI,Zl]
   exact ⟨rfl,List.prefix_refl _⟩
  ·have q5:=(pre_snoc (μ3++[C.lst ((is.drop 1).map D.int)]) (C.lst ((is.take 1).map D.int))).trans p5
   have g5':μ5[(μ3++[C.lst ((is.drop 1).map D.int)]++[C.lst ((is.take 1).map D.int)]).length]? = some (.lst (((is.take 1).map fun s=>s+(es.length:Int)).map D.int)):=by
    rw [g5,filter_all,List.map_map,List.map_map]
    rfl
   have g5d:=pre_get q5 (get_last μ3 (C.lst ((is.drop 1).map D.int)))
   refine (w_addL g5d g5' (by rw [Zl,Zl,Zl,List.length_drop,List.length_take,sizeLine_eq];omega)).mpr ?_
   rw [<- List.map_append]
   simp only [List.set_cons_zero,List.set_cons_succ,w_mOp,w_mC,w_mCall,w_mCons,w_mNil,w_mVar0,w_mVarS]
   have q6:=q5.trans (pre_snoc μ5 (C.lst ((is.drop 1++(is.take 1).map fun s=>s+(es.length:Int)).map D.int)))
   refine (w_lenL (pre_get q6 g4e)).mpr ?_
   rw [Zl]
   refine (w_fdivI (by omega) (by omega)).mpr ?_
   simp only [List.set_cons_zero,List.set_cons_succ,w_mRet]
   have g6:=pre_get q6 g4
   have g7:=get_last μ5 (C.lst ((is.drop 1++(is.take 1).map fun s=>s+(es.length:Int)).map D.int))
   generalize hjs:is.drop 1++(is.take 1).map (fun s=>s+(es.length:Int))=js at g6 g7 q6
   have hzl:(zipD is js).length<=8:=by
    unfold zipD
    rw [Zl,List.length_zip]
    omega
   have h8:8 / (es.length:Int)=1\/8 / (es.length:Int)=2:=by
    rcases hel with h|h
    ·left;rw [hml,h];rfl
    ·right;rw [hml,h];rfl
   refine w_compT (xs:=zipD is js) (x:=fun d=>[some (.int (unP d).1),some (.int (unP d).2)]) (p:=fun _=>true) (v:=fun d=>.int (((unP d).2 - (unP d).1) * (8 / (es.length:Int)))) ?_
   refine w_iZip ?_
   simp only [w_mCons,w_mNil,w_mVar0,w_mVarS]
   refine ⟨_,_,_,_,rfl,g6,g7,src_zip g6 g7,?_,by rw [sizeLine_eq];omega,fun d μ' hd=>?_,fun d μ' hd hp=>w_mTrue.mpr ⟨rfl,List.prefix_refl _⟩,fun d μ' hd _ hp=>?_,fun μ8 p8 g8=>?_⟩
   ·unfold zipD
    simp only [Zl,List.length_zip]
   ·obtain ⟨q,_,rfl⟩:=List.mem_map.mp hd
    rfl
   ·obtain ⟨q,_,rfl⟩:=List.mem_map.mp hd
    simp only [List.cons_append,List.nil_append,w_mOp,w_mVar0,w_mVarS,w_subI]
    exact (w_mulI (.inr (by omega))).mpr ⟨rfl,List.prefix_refl _⟩
   ·refine H _ _ (p1.trans (p2.trans (p3.trans ((pre_snoc _ _).trans (q6.trans p8))))) ?_
    rw [g8,filter_all]
    unfold zipD gapsB
    rw [hix,Zl,hjs,List.map_map,List.map_map]
    rfl
theorem find_split {α:Type}{l A B:List α}{x:α}{q:α->Bool}(hl:l=A++x::B)(hA:∀ y∈A,q y=false)(hx:q x=true):l.find? q=some x:=by
 rw [hl,List.find?_append]
 have:A.find? q=none:=List.find?_eq_none.mpr fun y hy=>by rw [hA y hy];exact Bool.false_ne_true
 rw [this,List.find?_cons_of_pos hx]
 rfl
theorem at_split {α:Type}{l:List α}{i:Nat}{x:α}(h:l[i]? = some x):l=l.take i++x::l.drop (i+1):=by
 obtain ⟨hi,rfl⟩:=Zg.mp h
 rw [<- List.drop_eq_getElem_cons hi,List.take_append_drop]
noncomputable def bad (ms:List ((Int×Int)×Str))(p:Int×Int):Bool:=isC p&&!(backB (inM ms) p.1 p.2)
noncomputable def optD:Option (Int×Int)->D
 | none=>.non
 | some p=>PP p
theorem gapsB_len (bs:List Bool):(gapsB bs).length<=bs.length:=by
 unfold gapsB
 rw [Zl,List.length_zip]
 have:(ixT bs).length<=bs.length:=by
  unfold ixT
  rw [Zl]
  exact Nat.le_trans (List.length_filter_le _ _) (by simp)
 omega
theorem isC_ok {p:Int×Int}(h:isC p=true):p.1 % 2=0/\p.1 % 4=p.2 % 4:=by
 unfold isC at h
 simpa using h
theorem s_barred (k:Nat){w h:Int}(hw:1<=w/\w<=3)(hh:1<=h/\h<=3)(ms:List ((Int×Int)×Str))(μ:Hm)(Q:D×Hm->Prop)(H:∀ μ',μ <+: μ'->Q (optD ((placesZ w h).find? (bad ms)),μ')):W (f (k+5) "barred" [SH w h ms] μ) Q:=by
 rw [ev_p_barred,W_fin]
 simp only [w_mSeq,w_mForI,w_iSeq,w_mCall,w_mCons,w_mNil,w_mOp,w_mVar0,w_mC,w_it30,w_it31]
 refine s_corners_in (k+2) w h hw hh _ _ fun a μ1 p1 g1=>?_
 refine (w_seqL g1).mpr ?_
 have hf:(placesZ w h).find? (bad ms)=((placesZ w h).filter isC).find? fun p=>!(backB (inM ms) p.1 p.2):=by
  rw [List.find?_filter]
  congr 1
  funext p
  unfold bad
  cases isC p<;>cases backB (inM ms) p.1 p.2<;>simp
 rw [hf] at H
 generalize hcs:(placesZ w h).filter isC=cs at g1 H
 have hcc:∀ p∈cs,isC p=true:=fun p hp=>by rw [<- hcs] at hp;exact (List.mem_filter.mp hp).2
 refine w_forL (xs:=cs.map PP) (fun i ρ μ'=>μ1 <+: μ'/\(∀ q∈cs.take i,(!(backB (inM ms) q.1 q.2))=false)/\∃ o1,ρ=[some (SH w h ms),o1]) ⟨List.prefix_refl _,fun q hq=>by simp at hq,none,rfl⟩ (fun i ρ μ' hI=>pre_get hI.1 g1) ?_ ?_
 ·rintro i d ρ μ2 hd ⟨hp,hok,o1,rfl⟩
  obtain ⟨⟨x,y⟩,hq,rfl⟩:=get_PP hd
  have hc:=isC_ok (hcc _ (List.mem_of_getElem? hq))
  refine ⟨_,rfl,?_⟩
  simp only [List.set_cons_zero,List.set_cons_succ,w_mIfS,w_mNotT,w_mTru,w_mCall,w_mCons,w_mNil,w_mVar0,w_mVarS]
  refine s_gaps_at k w h ms x y _ _ fun b μ3 p3 g3=>?_
  refine s_is_good (k+2) b _ ?_ _ _ g3 fun μ4 p4=>?_
  ·have h1:=gapsB_len ((mv x y (eOf x)).map (inM ms))
   rw [Zl] at h1
   have h2:(mv x y (eOf x)).length=(eOf x).length:=by unfold mv;rw [Zl]
   have:=eOf_len x
   omega
  rw [good_back hc.1 hc.2]
  simp only [w_truB]
  cases hb:backB (inM ms) x y with
  | true=>
   simp only [Bool.not_true,Bool.false_eq_true,if_false,w_mNext]
   refine ⟨hp.trans (p3.trans p4),fun q hq'=>?_,_,rfl⟩
   rw [List.take_succ,hq] at hq'
   rcases List.mem_append.mp hq' with hq'|hq'
   ·exact hok q hq'
   ·have:q=(x,y):=by simpa using hq'
    rw [this,hb]
    rfl
  | false=>
   simp only [Bool.not_false,if_true,w_mRet,w_mVar0,w_mVarS]
   have e:=find_split (q:=fun p=>!(backB (inM ms) p.1 p.2)) (at_split hq) hok (by dsimp only;rw [hb];rfl)
   rw [e] at H
   exact H _ (p1.trans (hp.trans (p3.trans p4)))
 ·rintro ρ μ2 ⟨hp,hok,o1,rfl⟩
  simp only [w_mRet,w_mC]
  rw [Zl,List.take_length] at hok
  have e:cs.find? (fun p=>!(backB (inM ms) p.1 p.2))=none:=List.find?_eq_none.mpr fun y hy=>by rw [hok y hy];exact Bool.false_ne_true
  rw [e] at H
  exact H _ (p1.trans hp)
structure Ly where
 a:Int
 b:Int
 c:Int
 d:Int
 e:Int
 g:Int
 deriving DecidableEq
noncomputable abbrev LD (A:Ly):D:=.tup [.int A.a,.int A.b,.int A.c,.int A.d,.int A.e,.int A.g]
noncomputable def Dih (A:Ly):Prop:=(A.b=0/\A.c=0/\(A.a=1\/A.a = -1)/\(A.d=1\/A.d = -1))\/(A.a=0/\A.d=0/\(A.b=1\/A.b = -1)/\(A.c=1\/A.c = -1))
theorem Dih.sm {A:Ly}(h:Dih A):(-1<=A.a/\A.a<=1)/\(-1<=A.b/\A.b<=1)/\(-1<=A.c/\A.c<=1)/\(-1<=A.d/\A.d<=1):=by
 unfold Dih at h
 omega
noncomputable def ledZ (A:Ly)(p:Int×Int):Int×Int:=(A.a * p.1+A.b * p.2+A.e,A.c * p.1+A.d * p.2+A.g)
noncomputable def thenZ (A B:Ly):Ly:=⟨B.a * A.a+B.b * A.c,B.a * A.b+B.b * A.d,B.c * A.a+B.d * A.c,B.c * A.b+B.d * A.d,B.a * A.e+B.b * A.g+B.e,B.c * A.e+B.d * A.g+B.g⟩
noncomputable def stillZ:Ly:=⟨1,0,0,1,0,0⟩
noncomputable def mirrorZ (e:Int×Int):Ly:=
 ⟨(mirr (1,0) e).1 - (mirr (0,0) e).1,(mirr (0,1) e).1 - (mirr (0,0) e).1,(mirr (1,0) e).2 - (mirr (0,0) e).2,(mirr (0,1) e).2 - (mirr (0,0) e).2,(mirr (0,0) e).1,(mirr (0,0) e).2⟩
theorem Ly.ext' {A B:Ly}(h1:A.a=B.a)(h2:A.b=B.b)(h3:A.c=B.c)(h4:A.d=B.d)(h5:A.e=B.e)(h6:A.g=B.g):A=B:=by
 cases A;cases B;simp_all
theorem mirror_dih (e:Int×Int):Dih (mirrorZ e):=by
 obtain ⟨x,y⟩:=e
 unfold Dih mirrorZ mirr
 dsimp only
 split<;>split<;>dsimp only<;>omega
theorem mirror_led (e p:Int×Int):ledZ (mirrorZ e) p=mirr p e:=by
 obtain ⟨x,y⟩:=e
 obtain ⟨u,v⟩:=p
 unfold ledZ mirrorZ mirr
 dsimp only
 split<;>split<;>dsimp only
 ·rw [show (0:Int)+(x - y) - (0+(x - y))=0 by omega,show (1:Int)+(x - y) - (0+(x - y))=1 by omega,show (1:Int) - (x - y) - (0 - (x - y))=1 by omega,show (0:Int) - (x - y) - (0 - (x - y))=0 by omega];refine Prod.ext ?_ ?_<;>dsimp only<;>omega
 ·rw [show x+y - 0 - (x+y - 0)=0 by omega,show x+y - 1 - (x+y - 0) = -1 by omega];refine Prod.ext ?_ ?_<;>dsimp only<;>omega
 ·rw [show (1:Int) - 0=1 by rfl,show 2 * y - 1 - (2 * y - 0) = -1 by omega,show (0:Int) - 0=0 by rfl,show 2 * y - 0 - (2 * y - 0)=0 by omega];refine Prod.ext ?_ ?_<;>dsimp only<;>omega
 ·rw [show 2 * x - 1 - (2 * x - 0) = -1 by omega,show (1:Int) - 0=1 by rfl,show 2 * x - 0 - (2 * x - 0)=0 by omega,show (0:Int) - 0=0 by rfl];refine Prod.ext ?_ ?_<;>dsimp only<;>omega
theorem then_led (A B:Ly)(p:Int×Int):ledZ (thenZ A B) p=ledZ B (ledZ A p):=by
 unfold ledZ thenZ
 refine Prod.ext ?_ ?_<;>dsimp only<;>grind
theorem still_then (A:Ly):thenZ stillZ A=A:=by
 unfold thenZ stillZ
 exact Ly.ext' (by dsimp only;omega) (by dsimp only;omega) (by dsimp only;omega) (by dsimp only;omega) (by dsimp only;omega) (by dsimp only;omega)
theorem then_assoc (A B E:Ly):thenZ (thenZ A B) E=thenZ A (thenZ B E):=by
 unfold thenZ
 refine Ly.ext' ?_ ?_ ?_ ?_ ?_ ?_<;>dsimp only<;>grind
theorem still_dih:Dih stillZ:=.inl ⟨rfl,rfl,.inl rfl,.inl rfl⟩
theorem pm_mul {x y:Int}(hx:x=1\/x = -1)(hy:y=1\/y = -1):x * y=1\/x * y = -1:=by
 rcases hx with rfl|rfl<;>rcases hy with rfl|rfl<;>decide
theorem then_dih {A B:Ly}(hA:Dih A)(hB:Dih B):Dih (thenZ A B):=by
 unfold Dih thenZ
 dsimp only
 rcases hA with ⟨h1,h2,h3,h4⟩|⟨h1,h2,h3,h4⟩<;>rcases hB with ⟨k1,k2,k3,k4⟩|⟨k1,k2,k3,k4⟩<;>rw [h1,h2,k1,k2]<;>simp only [Int.mul_zero,Int.zero_mul,Int.add_zero,Int.zero_add,true_and]
 ·exact .inl ⟨pm_mul k3 h3,pm_mul k4 h4⟩
 ·exact .inr ⟨pm_mul k3 h4,pm_mul k4 h3⟩
 ·exact .inr ⟨pm_mul k3 h3,pm_mul k4 h4⟩
 ·exact .inl ⟨pm_mul k3 h4,pm_mul k4 h3⟩
theorem led_inj {A B:Ly}(h:∀ p,ledZ A p=ledZ B p):A=B:=by
 have h0:=h (0,0)
 have h1:=h (1,0)
 have h2:=h (0,1)
 unfold ledZ at h0 h1 h2
 simp only [Prod.mk.injEq] at h0 h1 h2
 exact Ly.ext' (by omega) (by omega) (by omega) (by omega) (by omega) (by omega)
theorem still_led (p:Int×Int):ledZ stillZ p=p:=by
 unfold ledZ stillZ
 refine Prod.ext ?_ ?_<;>dsimp only<;>omega
theorem mirror_mirror (e:Int×Int):thenZ (mirrorZ e) (mirrorZ e)=stillZ:=led_inj fun p=>by
 rw [then_led,mirror_led,mirror_led,still_led]
 exact mirr_twice p e.1 e.2
theorem len6P {a b c d e g:D}:([a,b,c,d,e,g]:List D).length<=sizeLine:=by show (6:Nat)<=sizeLine;decide
theorem s_laying_by (k:Nat)(p q r:Int×Int)(μ:Hm)(Q:D×Hm->Prop):W (f (k+1) "laying_by" [PP p,PP q,PP r] μ) Q↔Q (LD ⟨q.1 - p.1,r.1 - p.1,q.2 - p.2,r.2 - p.2,p.1,p.2⟩,μ):=by
 rw [ev_p_laying_by,W_fin]
 simp only [w_mRet,w_mTup,w_mCons,w_mNil,w_mOp,w_mVar0,w_mVarS,w_mC,w_it20,w_it21,w_subI,len6P,true_and]
theorem s_mirror_in (k:Nat)(x y:Int)(μ:Hm)(Q:D×Hm->Prop):W (f (k+3) "mirror_in" [P x y] μ) Q↔Q (LD (mirrorZ (x,y)),μ):=by
 rw [ev_p_mirror_in,W_fin]
 simp only [w_mRet,w_mCall,w_mCons,w_mNil,w_mTup,w_mVar0,w_mC,len2,true_and,s_mirrored,s_laying_by]
 rfl
theorem w_mulS {i j:Int}(h:-1<=i/\i<=1){μ:Hm}{Q:D×Hm->Prop}:W (mulD (.int i) (.int j) μ) Q↔Q (.int (i * j),μ):=w_mulI (.inl ⟨by omega,by omega⟩)
theorem s_ledP (k:Nat)(A:Ly)(hA:Dih A)(x y:Int)(μ:Hm)(Q:D×Hm->Prop):W (f (k+1) "led" [LD A,P x y] μ) Q↔Q (PP (ledZ A (x,y)),μ):=by
 obtain ⟨h1,h2,h3,h4⟩:=hA.sm
 rw [ev_p_led,W_fin]
 simp only [w_mSeq,w_mSet,w_mRet,w_mTup,w_mCons,w_mNil,w_mOp,w_mVar0,w_mVarS,w_mC,w_it20,w_it21,w_it60,w_it61,w_it62,w_it63,w_it64,w_it65,List.set_cons_zero,List.set_cons_succ,w_mulS h1,w_mulS h2,w_mulS h3,w_mulS h4,w_addI,len2,true_and]
 rfl
theorem s_then (k:Nat)(A B:Ly)(hA:Dih A)(hB:Dih B)(μ:Hm)(Q:D×Hm->Prop):W (f (k+2) "then" [LD A,LD B] μ) Q↔Q (LD (thenZ A B),μ):=by
 rw [ev_p_then,W_fin]
 simp only [w_mRet,w_mCall,w_mCons,w_mNil,w_mTup,w_mVar0,w_mVarS,w_mC,len2,true_and,s_ledP _ A hA,s_ledP _ B hB,s_laying_by]
 have e:(⟨(ledZ B (ledZ A (1,0))).1 - (ledZ B (ledZ A (0,0))).1,(ledZ B (ledZ A (0,1))).1 - (ledZ B (ledZ A (0,0))).1,(ledZ B (ledZ A (1,0))).2 - (ledZ B (ledZ A (0,0))).2,(ledZ B (ledZ A (0,1))).2 - (ledZ B (ledZ A (0,0))).2,(ledZ B (ledZ A (0,0))).1,(ledZ B (ledZ A (0,0))).2⟩:Ly)=thenZ A B:=by
  unfold ledZ thenZ
  refine Ly.ext' ?_ ?_ ?_ ?_ ?_ ?_<;>dsimp only<;>grind
 rw [<- e]
noncomputable def st (m:Int×Int->Bool)(e:Int×Int)(A:Ly):Ly:=if m e then thenZ (mirrorZ e) A else A
theorem st_st (m:Int×Int->Bool)(e:Int×Int)(A:Ly):st m e (st m e A)=A:=by
 unfold st
 cases m e with
 | false=>rfl
 | true=>
  simp only [if_true]
  rw [<- then_assoc,mirror_mirror,still_then]
theorem st_dih {m:Int×Int->Bool}{e:Int×Int}{A:Ly}(h:Dih A):Dih (st m e A):=by
 unfold st
 split
 ·exact then_dih (mirror_dih e) h
 ·exact h
noncomputable def mvE (m:Int×Int->Bool)(e p:Int×Int):Int×Int:=if m e then mirr p e else p
theorem mvE_mvE (m:Int×Int->Bool)(e p:Int×Int):mvE m e (mvE m e p)=p:=by
 unfold mvE
 split
 ·exact mirr_twice p e.1 e.2
 ·rfl
theorem st_led (m:Int×Int->Bool)(e p:Int×Int)(A:Ly):ledZ (st m e A) p=ledZ A (mvE m e p):=by
 unfold st mvE
 split
 ·rw [then_led,mirror_led]
 ·rfl
noncomputable def sts (m:Int×Int->Bool)(es:List (Int×Int))(A:Ly):Ly:=es.foldl (fun A e=>st m e A) A
theorem sts_led (m:Int×Int->Bool)(p:Int×Int):∀ (es:List (Int×Int))(A:Ly),ledZ (sts m es A) p=ledZ A (es.foldr (mvE m) p)
 | [],A=>rfl
 | e::es,A=>by
  show ledZ (sts m es (st m e A)) p=_
  rw [sts_led m p es,st_led]
  rfl
theorem fold_back (m:Int×Int->Bool):∀ (es:List (Int×Int))(p:Int×Int),es.foldr (mvE m) (es.foldl (fun p e=>mvE m e p) p)=p
 | [],p=>rfl
 | e::es,p=>by
  rw [List.foldl_cons,List.foldr_cons,fold_back m es,mvE_mvE]
theorem sts_inj (m:Int×Int->Bool):∀ (es:List (Int×Int)){A B:Ly},sts m es A=sts m es B->A=B
 | [],_,_,h=>h
 | e::es,A,B,h=>by
  have h1:st m e A=st m e B:=sts_inj m es h
  rw [<- st_st m e A,h1,st_st]
theorem led3 {A B:Ly}(x y:Int)(h0:ledZ A (x,y)=ledZ B (x,y))(h1:ledZ A (x+2,y+1)=ledZ B (x+2,y+1))(h2:ledZ A (x+1,y+-2)=ledZ B (x+1,y+-2)):A=B:=by
 unfold ledZ at h0 h1 h2
 simp only [Prod.mk.injEq,Int.mul_add] at h0 h1 h2
 have ha:A.a=B.a:=by omega
 have hb:A.b=B.b:=by omega
 have hc:A.c=B.c:=by omega
 have hd:A.d=B.d:=by omega
 rw [ha,hb,hc,hd] at h0
 exact Ly.ext' ha hb hc hd (by omega) (by omega)
theorem mirr_line {e:Int×Int}(h:inE e.1 e.2=true)(p:Int×Int):mirr p e=mirZ p (lineZ e.1 e.2):=by
 unfold inE at h
 simp only [Bool.or_eq_true,Bool.and_eq_true,beq_iff_eq] at h
 unfold mirr lineZ mirZ
 rcases h with h|h
 ·rw [if_pos h.1,if_neg (show ¬ e.2 % 4=0 by omega),if_neg (show ¬ e.1 % 4=0 by omega)]
  by_cases z:e.1 % 4=e.2 % 4
  ·rw [if_pos z,if_pos z];rfl
  ·rw [if_neg z,if_neg z];rfl
 ·rw [if_neg (show ¬ e.1 % 2=1 by omega)]
  by_cases z:e.2 % 4=0
  ·rw [if_pos z,if_pos z];rfl
  ·rw [if_neg z,if_neg z,if_pos (show e.1 % 4=0 by omega)];rfl
theorem round_inE {x y:Int}(hx:x % 2=0)(hxy:x % 4=y % 4):∀ e∈mv x y (eOf x),inE e.1 e.2=true:=by
 intro e he
 unfold mv eOf at he
 unfold inE
 simp only [Bool.or_eq_true,Bool.and_eq_true,beq_iff_eq]
 split at he
 ·simp only [E8,List.map_cons,List.map_nil,List.mem_cons,List.not_mem_nil,or_false] at he
  rcases he with rfl|rfl|rfl|rfl|rfl|rfl|rfl|rfl<;>dsimp only<;>omega
 ·simp only [F4,List.map_cons,List.map_nil,List.mem_cons,List.not_mem_nil,or_false] at he
  rcases he with rfl|rfl|rfl|rfl<;>dsimp only<;>omega
theorem fold_mirr {m:Int×Int->Bool}:∀ {es:List (Int×Int)},(∀ e∈es,inE e.1 e.2=true)->∀ p,es.foldl (fun p e=>mvE m e p) p=foldM m es p
 | [],_,p=>rfl
 | e::es,h,p=>by
  have ih:=fold_mirr (m:=m) (es:=es) (fun x hx=>h x (List.mem_cons_of_mem _ hx)) (mvE m e p)
  rw [List.foldl_cons,ih]
  unfold mvE foldM
  rw [mirr_line (h e (List.mem_cons_self ..)),List.foldl_cons]
theorem round_id {m:Int×Int->Bool}{x y:Int}(hx:x % 2=0)(hxy:x % 4=y % 4)(hb:backB m x y=true)(A:Ly):sts m (mv x y (eOf x)) A=A:=by
 have hE:=round_inE hx hxy
 generalize hes:mv x y (eOf x)=es at hE
 have at_:∀ d∈D3,ledZ (sts m es A) (x+d.1,y+d.2)=ledZ A (x+d.1,y+d.2):=fun d hd=>by
  have h1:foldM m es (x+d.1,y+d.2)=(x+d.1,y+d.2):=by
   have:=List.all_eq_true.mp hb d hd
   rw [hes] at this
   simpa using this
  rw [sts_led]
  have h2:=fold_back m es (x+d.1,y+d.2)
  rw [fold_mirr hE,h1] at h2
  rw [h2]
 have h0:=at_ (0,0) (by decide)
 rw [show x+((0,0):Int×Int).1=x from Int.add_zero x,show y+((0,0):Int×Int).2=y from Int.add_zero y] at h0
 exact led3 x y h0 (at_ (2,1) (by decide)) (at_ (1,-2) (by decide))
noncomputable def oth (e q:Int×Int):Int×Int:=match besZ e.1 e.2 with
 | [a,b]=>if q=a then b else a
 | _=>q
noncomputable def Good (L:Int×Int->Ly)(m:Int×Int->Bool)(e:Int×Int):Prop:=∀ q∈besZ e.1 e.2,L (oth e q)=st m e (L q)
noncomputable def pathQ (q:Int×Int)(es:List (Int×Int)):Int×Int:=es.foldl (fun q e=>oth e q) q
noncomputable def besP:Int×Int->List (Int×Int)->Bool
 | _,[]=>true
 | q,e::es=>decide (q∈besZ e.1 e.2)&&besP (oth e q) es
theorem bes_two (x y:Int):∃ a b,besZ x y=[a,b]:=by
 unfold besZ
 split
 ·exact ⟨_,_,rfl⟩
 ·split<;>exact ⟨_,_,rfl⟩
theorem oth_oth {e q:Int×Int}(hq:q∈besZ e.1 e.2):oth e q∈besZ e.1 e.2/\oth e (oth e q)=q/\∀ p∈besZ e.1 e.2,p=q\/p=oth e q:=by
 obtain ⟨a,b,h⟩:=bes_two e.1 e.2
 have hv:∀ r,oth e r=if r=a then b else a:=fun r=>by unfold oth;rw [h]
 rw [h] at hq ⊢
 simp only [List.mem_cons,List.not_mem_nil,or_false] at hq ⊢
 by_cases z:q=a
 ·subst z
  have e1:oth e q=b:=by rw [hv,if_pos rfl]
  rw [e1]
  refine ⟨.inr rfl,?_,fun p hp=>hp⟩
  rw [hv]
  split
  ·assumption
  ·rfl
 ·have e1:oth e q=a:=by rw [hv,if_neg z]
  have hb:q=b:=hq.resolve_left z
  rw [e1]
  exact ⟨.inl rfl,by rw [hv,if_pos rfl,hb],fun p hp=>by rw [hb];exact hp.symm⟩
theorem path_L {L:Int×Int->Ly}{m:Int×Int->Bool}:∀ (es:List (Int×Int))(q:Int×Int),(∀ e∈es,Good L m e)->besP q es=true->L (pathQ q es)=sts m es (L q)
 | [],q,_,_=>rfl
 | e::es,q,h,hb=>by
  rw [besP,Bool.and_eq_true,decide_eq_true_eq] at hb
  show L (pathQ (oth e q) es)=sts m es (st m e (L q))
  rw [path_L es (oth e q) (fun x hx=>h x (List.mem_cons_of_mem _ hx)) hb.2,h e (List.mem_cons_self ..) q hb.1]
theorem bes_app:∀ (A B:List (Int×Int))(q:Int×Int),besP q (A++B)=(besP q A&&besP (pathQ q A) B)
 | [],B,q=>by simp [besP,pathQ]
 | e::A,B,q=>by
  show (decide (q∈besZ e.1 e.2)&&besP (oth e q) (A++B))=((decide (q∈besZ e.1 e.2)&&besP (oth e q) A)&&besP (pathQ (oth e q) A) B)
  rw [bes_app A B (oth e q),Bool.and_assoc]
theorem good_last {L:Int×Int->Ly}{m:Int×Int->Bool}{A B:List (Int×Int)}{e q:Int×Int}(hA:∀ x∈A,Good L m x)(hB:∀ x∈B,Good L m x)(hb:besP q (A++e::B)=true)(hp:pathQ q (A++e::B)=q)(hs:sts m (A++e::B) (L q)=L q):Good L m e:=by
 rw [bes_app,Bool.and_eq_true] at hb
 obtain ⟨b1,b2⟩:=hb
 rw [besP,Bool.and_eq_true,decide_eq_true_eq] at b2
 obtain ⟨b2,b3⟩:=b2
 have l1:=path_L A q hA b1
 have l2:=path_L B (oth e (pathQ q A)) hB b3
 have hp':pathQ (oth e (pathQ q A)) B=q:=by
  unfold pathQ at hp ⊢
  rw [List.foldl_append,List.foldl_cons] at hp
  exact hp
 have hs':sts m B (st m e (sts m A (L q)))=L q:=by
  unfold sts at hs ⊢
  rw [List.foldl_append,List.foldl_cons] at hs
  exact hs
 rw [hp',<- hs',<- l1] at l2
 have fin:L (oth e (pathQ q A))=st m e (L (pathQ q A)):=(sts_inj m B l2).symm
 obtain ⟨o1,o2,o3⟩:=oth_oth b2
 intro p hp
 rcases o3 p hp with rfl|rfl
 ·exact fin
 ·rw [o2,fin,st_st]
noncomputable def edC (c:Int×Int):List (Int×Int):=mv c.1 c.2 (eOf c.1)
noncomputable def cq0 (c:Int×Int):Int×Int:=if c.1 % 4=0 then (c.1+2,c.2 - 1) else (c.1+1,c.2)
noncomputable def addC (K:List (Int×Int))(c:Int×Int):List (Int×Int):=match (edC c).filter fun e=>!K.contains e with
 | [e]=>e::K
 | _=>K
noncomputable def clo (cs:List (Int×Int)):Nat->List (Int×Int)->List (Int×Int)
 | 0,K=>K
 | n+1,K=>clo cs n (cs.foldl addC K)
noncomputable def okC (c:Int×Int):Bool:=besP (cq0 c) (edC c)&&decide (pathQ (cq0 c) (edC c)=cq0 c)
theorem addC_good {L:Int×Int->Ly}{m:Int×Int->Bool}{K:List (Int×Int)}{c:Int×Int}(hK:∀ e∈K,Good L m e)(hc:okC c=true)(hs:∀ A,sts m (edC c) A=A):∀ e∈addC K c,Good L m e:=by
 unfold addC
 split
 ·rename_i e h
  obtain ⟨A,B,h1,h2,h3,h4⟩:=List.filter_eq_cons_iff.mp h
  rw [okC,Bool.and_eq_true,decide_eq_true_eq] at hc
  have inK:∀ x,¬ (!K.contains x)=true->x∈K:=fun x hx=>by simpa using hx
  intro x hx
  rcases List.mem_cons.mp hx with rfl|hx
  ·refine good_last (A:=A) (B:=B) (q:=cq0 c) (fun y hy=>hK y (inK y (h2 y hy))) (fun y hy=>hK y (inK y (List.filter_eq_nil_iff.mp h4 y hy))) ?_ ?_ ?_
   ·rw [<- h1];exact hc.1
   ·rw [<- h1];exact hc.2
   ·rw [<- h1];exact hs _
  ·exact hK x hx
 ·exact hK
theorem clo_good {L:Int×Int->Ly}{m:Int×Int->Bool}{cs:List (Int×Int)}(hc:∀ c∈cs,okC c=true/\∀ A,sts m (edC c) A=A):∀ (n:Nat){K:List (Int×Int)},(∀ e∈K,Good L m e)->∀ e∈clo cs n K,Good L m e
 | 0,K,hK=>hK
 | n+1,K,hK=>by
  refine clo_good hc n ?_
  have go:∀ (l:List (Int×Int)),(∀ c∈l,c∈cs)->∀ {K:List (Int×Int)},(∀ e∈K,Good L m e)->∀ e∈l.foldl addC K,Good L m e:=by
   intro l
   induction l with
   | nil=>exact fun _ K h=>h
   | cons c l ih=>
    intro hl K h
    obtain ⟨c1,c2⟩:=hc c (hl c (List.mem_cons_self ..))
    exact ih (fun x hx=>hl x (List.mem_cons_of_mem _ hx)) (addC_good h c1 c2)
  exact go cs (fun _ h=>h) hK
noncomputable abbrev Tr:=List ((Int×Int)×(Int×Int)×(Int×Int))
noncomputable def besideP (q:Int×Int):List (Int×Int):=[(q.1 - 1,q.2),(q.1,q.2 - 1),(q.1,q.2+1),(q.1+1,q.2)]
noncomputable def isE (p:Int×Int):Bool:=if p.1 % 2=1 then p.2 % 2 == 1 else p.2 % 2 == 0&&!(p.1 % 4 == p.2 % 4)
noncomputable def inS (w h:Int)(p:Int×Int):Bool:=decide (0<p.1)&&decide (p.1<4 * w)&&(decide (0<p.2)&&decide (p.2<4 * h))
noncomputable def nbE (w h:Int)(q:Int×Int):List (Int×Int):=((besideP q).filter isE).filter (inS w h)
noncomputable def isQ (p:Int×Int):Bool:=if p.1 % 2=1 then p.2 % 4 == 2 else p.1 % 4 == 2&&p.2 % 2 == 1
noncomputable def qus (w h:Int):List (Int×Int):=(placesZ w h).filter isQ
noncomputable def first (w h:Int):Int×Int:=(qus w h).headD (0,0)
noncomputable def keysQ (f0:Int×Int)(t:Tr):List (Int×Int):=f0::t.map (·.1)
noncomputable def vis1 (f0 here:Int×Int)(s:List (Int×Int)×Tr)(e:Int×Int):List (Int×Int)×Tr:=
 if mirr here e∈keysQ f0 s.2 then s else (s.1++[mirr here e],s.2++[(mirr here e,e,here)])
noncomputable def run1 (w h:Int)(f0:Int×Int)(s:List (Int×Int)×Tr):List (Int×Int)×Tr:=match s.1.getLast? with
 | none=>s
 | some here=>(nbE w h here).foldl (vis1 f0 here) (s.1.dropLast,s.2)
noncomputable def runN (w h:Int)(f0:Int×Int):Nat->List (Int×Int)×Tr
 | 0=>([f0],[])
 | n+1=>run1 w h f0 (runN w h f0 n)
noncomputable def treeZ (w h:Int):Tr:=(runN w h (first w h) 36).2
noncomputable def wfT:List (Int×Int)->Tr->Bool
 | _,[]=>true
 | ks,(c,_,p)::t=>!ks.contains c&&ks.contains p&&wfT (ks++[c]) t
theorem tree9:∀ w∈[(1:Int),2,3],∀ h∈[(1:Int),2,3],(runN w h (first w h) 36).1=[]/\wfT [first w h] (treeZ w h)=true/\(∀ t∈treeZ w h,t.2.2∈besZ t.2.1.1 t.2.1.2/\oth t.2.1 t.2.2=t.1)/\(∀ q∈quartZ w h,q∈keysQ (first w h) (treeZ w h))/\first w h=(quartZ w h).headD (0,0)/\2<=(treeZ w h).length/\(treeZ w h).length<=40:=by decide +kernel
theorem corn9:∀ w∈[(1:Int),2,3],∀ h∈[(1:Int),2,3],(∀ c∈(placesZ w h).filter isC,okC c=true)/\∀ e∈innerZ w h,e∈clo ((placesZ w h).filter isC) 13 ((treeZ w h).map (·.2.1)):=by decide +kernel
noncomputable abbrev Kv:=List ((Int×Int)×Ly)
noncomputable def getL (kvs:Kv)(q:Int×Int):Ly:=((kvs.find? fun p=>p.1 == q).map (·.2)).getD stillZ
theorem getL_app {kvs:Kv}{q:Int×Int}(h:q∈kvs.map (·.1))(r:Kv):getL (kvs++r) q=getL kvs q:=by
 obtain ⟨p,h1,h2⟩:=List.mem_map.mp h
 unfold getL
 rw [List.find?_append]
 cases z:kvs.find? fun p=>p.1 == q with
 | some x=>rfl
 | none=>
  have:=List.find?_eq_none.mp z p h1
  simp [h2] at this
theorem getL_new {kvs:Kv}{q:Int×Int}{A:Ly}(h:q∉kvs.map (·.1)):getL (kvs++[(q,A)]) q=A:=by
 unfold getL
 rw [List.find?_append]
 have:kvs.find? (fun p=>p.1 == q)=none:=List.find?_eq_none.mpr fun p hp=>by
  intro z
  exact h (List.mem_map.mpr ⟨p,hp,by simpa using z⟩)
 rw [this]
 simp
noncomputable def layF (m:Int×Int->Bool):Kv->Tr->Kv
 | kvs,[]=>kvs
 | kvs,(c,e,p)::t=>layF m (kvs++[(c,st m e (getL kvs p))]) t
theorem layF_snoc (m:Int×Int->Bool)(c e p:Int×Int):∀ (t:Tr)(kvs:Kv),layF m kvs (t++[(c,e,p)])=layF m kvs t++[(c,st m e (getL (layF m kvs t) p))]
 | [],kvs=>rfl
 | (c',e',p')::t,kvs=>layF_snoc m c e p t _
theorem layF_keys (m:Int×Int->Bool):∀ (t:Tr)(kvs:Kv),(layF m kvs t).map (·.1)=kvs.map (·.1)++t.map (·.1)
 | [],kvs=>by simp [layF]
 | (c,e,p)::t,kvs=>by
  rw [layF,layF_keys m t]
  simp
theorem getL_dih {kvs:Kv}(h:∀ p∈kvs,Dih p.2)(q:Int×Int):Dih (getL kvs q):=by
 unfold getL
 cases z:kvs.find? fun p=>p.1 == q with
 | none=>exact still_dih
 | some x=>exact h x (List.mem_of_find?_eq_some z)
theorem layF_dih (m:Int×Int->Bool):∀ (t:Tr)(kvs:Kv),(∀ p∈kvs,Dih p.2)->∀ p∈layF m kvs t,Dih p.2
 | [],kvs,h=>h
 | (c,e,p)::t,kvs,h=>layF_dih m t _ fun x hx=>by
  rcases List.mem_append.mp hx with hx|hx
  ·exact h x hx
  ·rw [List.mem_singleton.mp hx]
   exact st_dih (getL_dih h p)
theorem layF_ok (m:Int×Int->Bool):∀ (t:Tr)(kvs:Kv),wfT (kvs.map (·.1)) t=true->(∀ q∈kvs.map (·.1),getL (layF m kvs t) q=getL kvs q)/\(∀ x∈t,getL (layF m kvs t) x.1=st m x.2.1 (getL (layF m kvs t) x.2.2))/\((kvs.map (·.1)).Nodup->(kvs.map (·.1)++t.map (·.1)).Nodup)
 | [],kvs,_=>⟨fun q _=>rfl,(fun x hx=>nomatch hx),fun h=>by simpa using h⟩
 | (c,e,p)::t,kvs,h=>by
  rw [wfT,Bool.and_eq_true,Bool.and_eq_true] at h
  obtain ⟨⟨h1,h2⟩,h3⟩:=h
  have h1:c∉kvs.map (·.1):=by simpa using h1
  have h2:p∈kvs.map (·.1):=by simpa using h2
  obtain ⟨i1,i2,i3⟩:=layF_ok m t (kvs++[(c,st m e (getL kvs p))]) (by simpa using h3)
  have old:∀ q∈kvs.map (·.1),getL (layF m (kvs++[(c,st m e (getL kvs p))]) t) q=getL kvs q:=fun q hq=>by
   rw [i1 q (by rw [List.map_append];exact List.mem_append.mpr (.inl hq)),getL_app hq]
  refine ⟨old,fun x hx=>?_,fun nd=>?_⟩
  ·rcases List.mem_cons.mp hx with rfl|hx
   ·show getL (layF m (kvs++[(c,st m e (getL kvs p))]) t) c=st m e (getL (layF m (kvs++[(c,st m e (getL kvs p))]) t) p)
    rw [old p h2,i1 c (by simp),getL_new h1]
   ·exact i2 x hx
  ·have:=i3 (by
    rw [List.map_append,List.nodup_append]
    refine ⟨nd,by simp,fun a ha b hb z=>?_⟩
    have:b=c:=by simpa using hb
    rw [z,this] at ha
    exact h1 ha)
   simpa using this
noncomputable def layS (m:Int×Int->Bool)(w h:Int):Kv:=layF m [(first w h,stillZ)] (treeZ w h)
theorem all_good {w h:Int}(hw:1<=w/\w<=3)(hh:1<=h/\h<=3){m:Int×Int->Bool}(hb:∀ c∈placesZ w h,isC c=true->backB m c.1 c.2=true):∀ e∈innerZ w h,Good (getL (layS m w h)) m e:=by
 obtain ⟨_,t2,t3,_⟩:=tree9 w (mem3 hw) h (mem3 hh)
 obtain ⟨c1,c2⟩:=corn9 w (mem3 hw) h (mem3 hh)
 obtain ⟨_,l2,_⟩:=layF_ok m (treeZ w h) [(first w h,stillZ)] t2
 refine fun e he=>clo_good (cs:=(placesZ w h).filter isC) (fun c hc=>⟨c1 c hc,fun A=>?_⟩) 13 (fun e he=>?_) e (c2 e he)
 ·obtain ⟨hc1,hc2⟩:=List.mem_filter.mp hc
  have h3:=hb c hc1 hc2
  unfold isC at hc2
  simp only [Bool.and_eq_true,beq_iff_eq] at hc2
  exact round_id hc2.1 hc2.2 h3 A
 ·obtain ⟨t,ht,rfl⟩:=List.mem_map.mp he
  obtain ⟨b1,b2⟩:=t3 t ht
  have b3:=l2 t ht
  obtain ⟨o1,o2,o3⟩:=oth_oth b1
  intro q hq
  rcases o3 q hq with rfl|rfl
  ·rw [b2];exact b3
  ·rw [o2,b2]
   show getL (layS m w h) t.2.2=st m t.2.1 (getL (layS m w h) t.1)
   rw [show getL (layS m w h) t.1=_ from b3,st_st]
   rfl
theorem s_sheet (k:Nat)(ns:List Int)(c:Nat)(ws:List Int)(hws:ws≠[])(μ:Hm)(hc:μ[c]? = some (.lst (ws.map D.int)))(Q:D×Hm->Prop)(H:∀ (w h:Int)(ms:List ((Int×Int)×Str)) μ',(1<=w/\w<=3)->(1<=h/\h<=3)->μ <+: μ'->ms.length<=49->Q (.tup [.int w,.int h,.tup (ms.map MD)],μ')):W (f (k+4) "_law_sheet" [.rol (ns.map D.int),.int 3,.loc c] μ) Q:=by
 rw [ev_w_sheet,W_fin]
 simp only [w_mSeq,w_mSet,w_mOp,w_mC,w_mCall,w_mCons,w_mNil,w_mVar0,w_mVarS]
 refine s_cell (k+2) ns 0 (by decide) _ _ fun μ1 p1=>?_
 refine (w_modI (by decide)).mpr ?_
 simp only [w_addI,List.set_cons_zero,List.set_cons_succ,w_mVar0,w_mVarS]
 refine s_cell (k+2) ns 0 (by decide) _ _ fun μ2 p2=>?_
 refine (w_fdivI (by decide) (by decide)).mpr ((w_modI (by decide)).mpr ?_)
 simp only [w_addI,List.set_cons_zero,List.set_cons_succ,w_mIfS,w_mTest,w_mOp,w_mC,w_mCall,w_mCons,w_mNil,w_mVar0,w_mVarS]
 have hw:1<=1+cellV ns 0 % 3/\1+cellV ns 0 % 3<=3:=by
  have h1:=Int.emod_nonneg (cellV ns 0) (show (3:Int)≠0 by decide)
  have h2:=Int.emod_lt_of_pos (cellV ns 0) (show (0:Int)<3 by decide)
  omega
 have hh:1<=1+cellV ns 0 / 3 % 3/\1+cellV ns 0 / 3 % 3<=3:=by
  have h1:=Int.emod_nonneg (cellV ns 0 / 3) (show (3:Int)≠0 by decide)
  have h2:=Int.emod_lt_of_pos (cellV ns 0 / 3) (show (0:Int)<3 by decide)
  omega
 generalize 1+cellV ns 0 % 3=w at hw
 generalize 1+cellV ns 0 / 3 % 3=h at hh
 refine s_cell (k+2) ns 60 (by decide) _ _ fun μ3 p3=>?_
 simp only [w_mod4,w_eqI]
 have q3:=p1.trans (p2.trans p3)
 cases hb:cellV ns 60 % 4 == 1 with
 | true=>
  simp only [if_true,w_mRet,w_mCall,w_mCons,w_mNil,w_mVar0,w_mVarS]
  exact s_sheet_by_digits (k+1) ns hw hh _ _ fun ms μ' hp hl=>H w h ms μ' hw hh (q3.trans hp) hl
 | false=>
  simp only [Bool.false_eq_true,if_false,w_mNext,w_mSeq,w_mSet,w_mLst,w_mNil]
  refine ⟨Nat.zero_le _,?_⟩
  simp only [List.set_cons_zero,List.set_cons_succ,w_mForI]
  refine w_iEnum ?_
  simp only [w_mCons,w_mNil,w_mCall,w_mVar0,w_mVarS]
  refine s_creased k ns hw hh c ws hws _ (pre_get (q3.trans (pre_snoc _ _)) hc) _ fun b fs μ4 p4 g4 l4=>?_
  refine ⟨b,fs.map PP,rfl,g4,?_⟩
  have hne:b≠μ3.length\/fs=[]:=by
   by_cases z:b=μ3.length
   ·right
    have z1:=pre_get p4 (get_last μ3 (C.lst []))
    rw [z,z1] at g4
    injection g4 with g4
    injection g4 with g4
    cases fs with
    | nil=>rfl
    | cons _ _=>cases g4
   ·exact .inl z
  rcases hne with hne|rfl
  ·refine w_forE (fun i ρ μ'=>μ3 <+: μ'/\μ'[b]? = some (.lst (fs.map PP))/\∃ (ms:List ((Int×Int)×Str))(o6 o7 o8:Option D),μ'[μ3.length]? = some (.lst (ms.map MD))/\ms.length<=i/\i<=fs.length/\ρ=[some (.rol (ns.map D.int)),some (.int 3),some (.loc c),some (.int w),some (.int h),some (.loc μ3.length),o6,o7,o8]) ⟨(pre_snoc _ _).trans p4,g4,[],none,none,none,pre_get p4 (get_last _ _),Nat.le_refl _,Nat.zero_le _,rfl⟩ (fun i ρ μ' hI=>hI.2.1) ?_ ?_
   ·rintro i d ρ μ5 hd ⟨hp,hgb,ms,o6,o7,o8,hg,hf,_,rfl⟩
    obtain ⟨q,hq,rfl⟩:=get_PP hd
    have hi:i<fs.length:=(Zg.mp hq).1
    refine ⟨[some (.rol (ns.map D.int)),some (.int 3),some (.loc c),some (.int w),some (.int h),some (.loc μ3.length),some (.int i),some (PP q),o8],rfl,?_⟩
    have h9:0<=(i:Int) % 9/\(i:Int) % 9<9:=⟨Int.emod_nonneg _ (by decide),Int.emod_lt_of_pos _ (by decide)⟩
    simp only [List.set_cons_zero,List.set_cons_succ,w_mSeq,w_mSet,w_mOp,w_mCall,w_mCons,w_mNil,w_mVar0,w_mVarS,w_mC,w_mod9,w_addI]
    refine s_cell (k+2) ns _ (by omega) _ _ fun μ6 p6=>?_
    simp only [w_mul2,w_addI]
    refine (w_mulI (.inr (by omega))).mpr ((w_mulI (.inl (by omega))).mpr ?_)
    simp only [w_addI,List.set_cons_zero,List.set_cons_succ,w_mDrop]
    have hg6:=pre_get p6 hg
    refine w_mMeth ?_
    simp only [w_mVar0,w_mVarS]
    refine ⟨isLst_loc hg6,?_⟩
    simp only [w_mCons,w_mNil,w_mTup,w_mVar0,w_mVarS,w_mOp,w_mC]
    refine (w_modI (by decide)).mpr ((w_modI (by decide)).mpr ?_)
    refine w_itHvo ⟨Int.emod_nonneg _ (by decide),Int.emod_lt_of_pos _ (by decide)⟩ fun s=>?_
    refine ⟨len2,?_⟩
    refine (w_append hg6 (by rw [Zl,sizeLine_eq];omega)).mpr ?_
    refine ⟨pre_set (hp.trans p6) (Nat.le_refl _) _,?_,ms++[(q,s)],_,_,_,?_,by rw [List.length_append];exact Nat.succ_le_succ hf,hi,rfl⟩
    ·rw [set_other (Ne.symm hne)]
     exact pre_get p6 hgb
    ·rw [set_get hg6,List.map_append]
     rfl
   ·rintro ρ μ5 ⟨hp,hgb,ms,o6,o7,o8,hg,hf,_,rfl⟩
    simp only [w_mRet,w_mTup,w_mCons,w_mNil,w_mVar0,w_mVarS,w_mCall]
    refine (w_tupL hg).mpr ⟨len3,?_⟩
    exact H w h ms _ hw hh (q3.trans hp) (by rw [Zl] at hf;omega)
  ·refine w_forE (xs:=[]) (fun i ρ μ'=>μ'=μ4/\ρ=[some (.rol (ns.map D.int)),some (.int 3),some (.loc c),some (.int w),some (.int h),some (.loc μ3.length),none,none,none]) ⟨rfl,rfl⟩ (fun i ρ μ' hI=>by rw [hI.1];exact g4) (fun i d ρ μ' hd=>by simp at hd) ?_
   rintro ρ μ5 ⟨rfl,rfl⟩
   simp only [w_mRet,w_mTup,w_mCons,w_mNil,w_mVar0,w_mVarS,w_mCall]
   refine (w_tupL (xs:=([]:List ((Int×Int)×Str)).map MD) (pre_get p4 (get_last _ _))).mpr ⟨len3,?_⟩
   exact H w h [] _ hw hh (q3.trans ((pre_snoc _ _).trans p4)) (Nat.zero_le _)
theorem s_is_edge (k:Nat)(x y:Int)(μ:Hm)(Q:D×Hm->Prop):W (f (k+1) "is_edge" [P x y] μ) Q↔Q (.bl (isE (x,y)),μ):=by
 rw [ev_p_is_edge,W_fin]
 simp only [w_mSeq,w_mRet,w_mNext,w_mIfS,w_mTest,w_mAndV,w_mOp,w_mC,w_mVar0,w_it20,w_it21,w_eqI,w_neI,w_mod2,w_mod4]
 unfold isE
 by_cases h:x % 2=1
 ·simp [h]
 ·have e:(x % 2 == 1)=false:=by simpa using h
  simp only [e,h,Bool.false_eq_true,if_false]
  cases y % 2 == 0<;>simp
theorem s_is_quarter (k:Nat)(x y:Int)(μ:Hm)(Q:D×Hm->Prop):W (f (k+1) "is_quarter" [P x y] μ) Q↔Q (.bl (isQ (x,y)),μ):=by
 rw [ev_p_is_quarter,W_fin]
 simp only [w_mSeq,w_mRet,w_mNext,w_mIfS,w_mTest,w_mAndV,w_mOp,w_mC,w_mVar0,w_it20,w_it21,w_eqI,w_neI,w_mod2,w_mod4]
 unfold isQ
 by_cases h:x % 2=1
 ·simp [h]
 ·have e:(x % 2 == 1)=false:=by simpa using h
  simp only [e,h,Bool.false_eq_true,if_false]
  cases x % 4 == 2<;>simp
theorem len4:(4:Nat)<=sizeLine:=by decide
theorem s_edges_of (k:Nat)(q:Int×Int)(μ:Hm)(Q:D×Hm->Prop)(H:∀ a μ',μ <+: μ'->μ'[a]? = some (.lst (((besideP q).filter isE).map PP))->μ.length<=a->Q (.loc a,μ')):W (f (k+2) "edges_of" [PP q] μ) Q:=by
 rw [ev_p_edges_of,W_fin]
 simp only [w_mRet]
 refine w_comp (xs:=(besideP q).map PP) (p:=fun d=>isE (unP d)) (v:=fun d=>d) ?_
 simp only [w_iSeq,w_mCall,w_mCons,w_mNil,w_mVar0,w_mVarS]
 rw [ev_p_beside,W_fin]
 simp only [w_mSeq,w_mSet,w_mRet,w_mLst,w_mTup,w_mCons,w_mNil,w_mOp,w_mC,w_mVar0,w_mVarS,w_it20,w_it21,w_subI,w_addI,List.set_cons_zero,List.set_cons_succ,len2,true_and]
 refine ⟨len4,?_⟩
 have g1:(μ++[C.lst [P (q.1 - 1) q.2,P q.1 (q.2 - 1),P q.1 (q.2+1),P (q.1+1) q.2]])[μ.length]? = some (.lst ((besideP q).map PP)):=get_last _ _
 refine (w_seqL g1).mpr ⟨src_loc g1,rfl,len4,fun d μ' hd hp=>?_,fun d μ' hd _ hp=>?_,fun μ' hp hg=>?_⟩
 ·obtain ⟨u,v,rfl⟩:=mem_PP hd
  simp only [List.cons_append,List.nil_append,w_mTru,w_mCall,w_mCons,w_mNil,w_mVar0,w_mVarS,s_is_edge,w_truB]
  exact ⟨rfl,List.prefix_refl _⟩
 ·simp only [List.cons_append,List.nil_append,w_mVar0,w_mVarS]
  exact ⟨trivial,List.prefix_refl _⟩
 ·refine H _ _ ((pre_snoc _ _).trans hp) ?_ (by simp)
  rw [hg,filter_PP isE]
theorem s_is_within (k:Nat)(w h x y:Int)(μ:Hm)(Q:D×Hm->Prop):W (f (k+1) "is_within" [.int w,.int h,P x y] μ) Q↔Q (.bl (inS w h (x,y)),μ):=by
 rw [ev_p_is_within,W_fin]
 simp only [w_mRet,w_mAndV,w_mChain,w_mOp,w_mC,w_mVar0,w_mVarS,w_it20,w_it21,w_ltI,w_mul4]
 unfold inS
 dsimp only
 cases decide (0<x)<;>cases decide (x<4 * w)<;>cases decide (0<y)<;>cases decide (y<4 * h)<;>simp
noncomputable def NB (q e:Int×Int):D:=.tup [PP e,PP (mirr q e)]
theorem s_neighbours_in (k:Nat)(w h:Int)(q:Int×Int)(μ:Hm)(Q:D×Hm->Prop)(H:∀ a μ',μ <+: μ'->μ'[a]? = some (.lst ((nbE w h q).map (NB q)))->μ.length<=a->Q (.loc a,μ')):W (f (k+3) "neighbours_in" [.int w,.int h,PP q] μ) Q:=by
 rw [ev_p_neighbours_in,W_fin]
 simp only [w_mRet]
 refine w_comp (xs:=((besideP q).filter isE).map PP) (p:=fun d=>inS w h (unP d)) (v:=fun d=>NB q (unP d)) ?_
 simp only [w_iSeq,w_mCall,w_mCons,w_mNil,w_mVar0,w_mVarS]
 refine s_edges_of k q _ _ fun a μ1 p1 g1 l1=>?_
 refine (w_seqL g1).mpr ⟨src_loc g1,rfl,?_,fun d μ' hd hp=>?_,fun d μ' hd _ hp=>?_,fun μ' hp hg=>?_⟩
 ·rw [Zl]
  exact Nat.le_trans (List.length_filter_le _ _) len4
 ·obtain ⟨u,v,rfl⟩:=mem_PP hd
  simp only [List.cons_append,List.nil_append,w_mTru,w_mCall,w_mCons,w_mNil,w_mVar0,w_mVarS,s_is_within,w_truB]
  exact ⟨rfl,List.prefix_refl _⟩
 ·obtain ⟨u,v,rfl⟩:=mem_PP hd
  simp only [List.cons_append,List.nil_append,w_mTup,w_mCall,w_mCons,w_mNil,w_mVar0,w_mVarS,s_mirrored,len2,true_and]
  exact ⟨rfl,List.prefix_refl _⟩
 ·refine H _ _ (p1.trans hp) ?_ p1.length_le
  rw [hg]
  have:=filter_PP (inS w h) ((besideP q).filter isE)
  rw [List.map_id'] at this
  rw [this,List.map_map]
  rfl
theorem s_quarters_in (k:Nat)(w h:Int)(hw:1<=w/\w<=3)(hh:1<=h/\h<=3)(μ:Hm)(Q:D×Hm->Prop)(H:∀ a μ',μ <+: μ'->μ'[a]? = some (.lst ((qus w h).map PP))->Q (.loc a,μ')):W (f (k+2) "quarters_in" [.int w,.int h] μ) Q:=by
 rw [ev_p_quarters_in,W_fin]
 simp only [w_mRet]
 refine w_comp (xs:=(placesZ w h).map PP) (p:=fun d=>isQ (unP d)) (v:=fun d=>d) ?_
 simp only [w_iSeq,w_mCall,w_mCons,w_mNil,w_mVar0,w_mVarS]
 refine s_places_within _ w h (by omega) (by omega) _ _ fun a μ1 p1 g1 l1=>?_
 refine (w_seqL g1).mpr ⟨src_loc g1,rfl,?_,fun d μ' hd hp=>?_,fun d μ' hd _ hp=>?_,fun μ' hp hg=>?_⟩
 ·have:=places_len (w:=w) (h:=h) (by omega) (by omega)
  rw [Zl,sizeLine_eq];omega
 ·obtain ⟨u,v,rfl⟩:=mem_PP hd
  simp only [List.cons_append,List.nil_append,w_mTru,w_mCall,w_mCons,w_mNil,w_mVar0,w_mVarS,s_is_quarter,w_truB]
  exact ⟨rfl,List.prefix_refl _⟩
 ·simp only [List.cons_append,List.nil_append,w_mVar0,w_mVarS]
  exact ⟨trivial,List.prefix_refl _⟩
 ·refine H _ _ (p1.trans hp) ?_
  rw [hg,filter_PP isQ]
  rfl
theorem s_check_corners (k:Nat){w h:Int}(hw:1<=w/\w<=3)(hh:1<=h/\h<=3)(ms:List ((Int×Int)×Str))(hb:(placesZ w h).find? (bad ms)=none)(μ:Hm)(Q:D×Hm->Prop)(H:∀ μ',μ <+: μ'->Q (.non,μ')):W (f (k+6) "check_corners" [SH w h ms] μ) Q:=by
 rw [ev_p_check_corners,W_fin]
 simp only [w_mSeq,w_mSet,w_mCall,w_mCons,w_mNil,w_mVar0]
 refine s_barred k hw hh ms _ _ fun μ' hp=>?_
 rw [hb]
 simp only [optD,List.set_cons_zero,List.set_cons_succ,w_mIfS,w_mTest,w_mOp,w_mVar0,w_mVarS,w_mC,w_isnotNN,Bool.false_eq_true,if_false,w_mNext]
 exact H _ hp
noncomputable def kvD (kvs:Kv):List (List Int×D):=kvs.map fun p=>(keyP p.1,LD p.2)
theorem some_kvD (kvs:Kv)(q:Int×Int):(valDT (kvD kvs) (keyP q)).isSome=decide (q∈kvs.map (·.1)):=by
 rw [val_some]
 induction kvs with
 | nil=>rfl
 | cons p kvs ih=>
  show (decide (keyP p.1=keyP q)||(kvD kvs).any _)=_
  rw [ih,key_eq]
  simp only [List.map_cons,List.mem_cons,Bool.decide_or]
  congr 1
  rw [Bool.eq_iff_iff,beq_iff_eq,decide_eq_true_iff]
  exact eq_comm
theorem val_kvD {kvs:Kv}{q:Int×Int}(h:q∈kvs.map (·.1)):valDT (kvD kvs) (keyP q)=some (LD (getL kvs q)):=by
 induction kvs with
 | nil=>simp at h
 | cons p kvs ih=>
  unfold valDT getL kvD
  rw [List.map_cons,List.find?_cons,List.find?_cons]
  dsimp only
  rw [key_eq]
  cases z:p.1 == q with
  | true=>rfl
  | false=>
   rcases List.mem_cons.mp h with h|h
   ·simp [h] at z
   ·exact ih h
theorem put_kvD {kvs:Kv}{q:Int×Int}(h:q∉kvs.map (·.1))(A:Ly):putDT (kvD kvs) (keyP q) (LD A)=kvD (kvs++[(q,A)]):=by
 unfold putDT
 rw [some_kvD,decide_eq_false h,if_neg (by simp)]
 unfold kvD
 rw [List.map_append]
 rfl
theorem val_nd {l:List (List Int×D)}(nd:(l.map (·.1)).Nodup){k:List Int}{d:D}(h:(k,d)∈l):valDT l k=some d:=by
 induction l with
 | nil=>cases h
 | cons p l ih=>
  rw [List.map_cons,List.nodup_cons] at nd
  unfold valDT
  rw [List.find?_cons]
  rcases List.mem_cons.mp h with h|h
  ·rw [<- h]
   simp
  ·have:decide (p.1=k)=false:=decide_eq_false fun z=>nd.1 (List.mem_map.mpr ⟨_,h,z.symm⟩)
   rw [this]
   exact ih nd.2 h
theorem sortKV_val {l:List (List Int×D)}(nd:(l.map (·.1)).Nodup)(h0:0<l.length){k:List Int}{d:D}(h:valDT l k=some d):valDT (sortKV l) k=some d:=by
 have hp:(sortKV l).Perm l:=by
  unfold sortKV
  have p:=(sortIx_perm (fun i j=>HT.lexLt ((l.map (·.1)).getD i []) ((l.map (·.1)).getD j [])) h0).map fun i=>l.getD i ([],.non)
  rw [range_getD] at p
  exact p
 exact val_nd ((hp.map (·.1)).nodup_iff.mpr nd) (hp.mem_iff.mpr (val_mem h))
theorem keyP_inj {p q:Int×Int}(h:keyP p=keyP q):p=q:=by
 have:=key_eq p q
 rw [decide_eq_true h] at this
 simpa using this.symm
theorem kvD_nd {kvs:Kv}(nd:(kvs.map (·.1)).Nodup):((kvD kvs).map (·.1)).Nodup:=by
 have e:(kvD kvs).map (·.1)=(kvs.map (·.1)).map keyP:=by
  unfold kvD
  rw [List.map_map,List.map_map]
  rfl
 rw [e]
 exact List.Pairwise.map _ (fun a b hab z=>hab (keyP_inj z)) nd
theorem w_while {c:MT}{b:MS}{Q:Fl×Rho×Hm->Prop}(I:Nat->Rho->Hm->Prop)
  (hs:∀ m ρ μ,I m ρ μ->W (c ρ μ) fun p=>if p.1=true then W (b ρ p.2) fun q=>match q.1 with
   | .nx=>∃ m',m'<m/\I m' q.2.1 q.2.2
   | .ct=>∃ m',m'<m/\I m' q.2.1 q.2.2
   | .bk=>Q (.nx,q.2.1,q.2.2)
   | .rt d=>Q (.rt d,q.2.1,q.2.2) else Q (.nx,ρ,p.2)):∀ (n m:Nat)(ρ:Rho)(μ:Hm),m<n->I m ρ μ->W (goWhile c b n ρ μ) Q:=by
 intro n
 induction n with
 | zero=>intro m ρ μ h;omega
 | succ n ih=>
  intro m ρ μ hm hI
  unfold goWhile
  rw [W_bind]
  refine W_mono (hs m ρ μ hI) fun p hp=>?_
  obtain ⟨pb,pμ⟩:=p
  cases pb with
  | false=>exact W_some.mpr (by simpa using hp)
  | true=>
   simp only [if_true] at hp
   dsimp only
   rw [W_bind]
   refine W_mono hp fun q hq=>?_
   obtain ⟨fl,qρ,qμ⟩:=q
   cases fl with
   | nx=>obtain ⟨m',h1,h2⟩:=hq;exact ih m' _ _ (by omega) h2
   | ct=>obtain ⟨m',h1,h2⟩:=hq;exact ih m' _ _ (by omega) h2
   | bk=>exact W_some.mpr hq
   | rt d=>exact W_some.mpr hq
theorem w_mWhile {c:MT}{b:MS}{ρ:Rho}{μ:Hm}{Q:Fl×Rho×Hm->Prop}(I:Nat->Rho->Hm->Prop)(m:Nat)(hm:m<1000000000)(h0:I m ρ μ)
  (hs:∀ m ρ μ,I m ρ μ->W (c ρ μ) fun p=>if p.1=true then W (b ρ p.2) fun q=>match q.1 with
   | .nx=>∃ m',m'<m/\I m' q.2.1 q.2.2
   | .ct=>∃ m',m'<m/\I m' q.2.1 q.2.2
   | .bk=>Q (.nx,q.2.1,q.2.2)
   | .rt d=>Q (.rt d,q.2.1,q.2.2) else Q (.nx,ρ,p.2)):W (mWhile wFuel c b ρ μ) Q:=by
 unfold mWhile
 exact w_while I hs wFuel m ρ μ (by unfold wFuel;exact hm) h0
theorem w_truL {μ:Hm}{a:Nat}{xs:List D}{Q:Bool->Prop}(h:μ[a]? = some (.lst xs)):W (truD μ (.loc a)) Q↔Q (!xs.isEmpty):=by
 simp only [truD,h]
 exact W_some
theorem w_popL {μ:Hm}{a:Nat}{xs:List D}{y:D}{Q:D×Hm->Prop}(h:μ[a]? = some (.lst (xs++[y]))):W (popM (.loc a) [] μ) Q↔Q (y,μ.set a (.lst xs)):=by
 have:popM (.loc a) [] μ=some (y,μ.set a (.lst xs)):=by
  simp only [popM,h]
  simp
 rw [this]
 exact W_some
theorem w_mDSort {m:ME}{ρ:Rho}{μ:Hm}{Q:D×Hm->Prop}:W (mDSort m ρ μ) Q↔W (m ρ μ) fun p=>W (dsortM p.1 p.2) Q:=by
 unfold mDSort
 rw [W_bind]
theorem w_dsort {μ:Hm}{a:Nat}{kvs:List (List Int×D)}{Q:D×Hm->Prop}(h:μ[a]? = some (.dT kvs))(hl:2<=kvs.length/\kvs.length<64):W (dsortM (.loc a) μ) Q↔Q (.loc μ.length,μ++[.dT (sortKV kvs)]):=by
 have:dsortM (.loc a) μ=some (.loc μ.length,μ++[.dT (sortKV kvs)]):=by
  simp only [dsortM,h]
  rw [if_pos hl]
 rw [this]
 exact W_some
theorem w_disp1 {i:Nat}{y:D}{ρ:Rho}{μ:Hm}{x:D}{k:List Int}{Q:D×Hm->Prop}(h:ρ[i]? = some (some x))(hk:keyT x=some k):W (mDisp1 (mVar i) (mC y) ρ μ) Q↔Q (.loc μ.length,μ++[.dT [(k,y)]]):=by
 have:mDisp1 (mVar i) (mC y) ρ μ=some (.loc μ.length,μ++[.dT [(k,y)]]):=by
  unfold mDisp1 mVar mC
  simp only [h,Option.bind_some,get_last,hk,Option.map_some,set_last]
 rw [this]
 exact W_some
noncomputable def marksD (ms:List ((Int×Int)×Str)):List (List Int×D):=(ms.map fun m=>(keyP m.1,D.str m.2)).foldl (fun q p=>putDT q p.1 p.2) []
structure LI (ms:List ((Int×Int)×Str))(f0:Int×Int)(μ3:Hm)(s:List (Int×Int)×Tr)(μ':Hm):Prop where
 pre:μ3 <+: μ'
 dic:μ'[μ3.length]? = some (.dT (kvD (layF (inM ms) [(f0,stillZ)] s.2)))
 due:μ'[μ3.length+1]? = some (.lst (s.1.map PP))
 sub:∀ q∈s.1,q∈keysQ f0 s.2
theorem lay_keys (m:Int×Int->Bool)(f0:Int×Int)(t:Tr):(layF m [(f0,stillZ)] t).map (·.1)=keysQ f0 t:=layF_keys m t _
theorem lay_dih (m:Int×Int->Bool)(f0:Int×Int)(t:Tr)(q:Int×Int):Dih (getL (layF m [(f0,stillZ)] t) q):=
 getL_dih (layF_dih m t _ fun p hp=>by rw [List.mem_singleton.mp hp];exact still_dih) q
theorem lay_len (m:Int×Int->Bool)(f0:Int×Int)(t:Tr):(kvD (layF m [(f0,stillZ)] t)).length=t.length+1:=by
 have:=congrArg List.length (lay_keys m f0 t)
 unfold kvD
 rw [Zl] at this ⊢
 rw [this]
 simp [keysQ]
noncomputable def turnB (k:Nat):MS:=mIfS (mTest (mOp (inD true) (mVar 7) (mVar 3))) (mSeq (mPut (mVar 3) (mVar 7) (mIfE (mTest (mOp (inD false) (mVar 6) (mVar 1))) (mCall (f (k+6) "then") (mCons (mCall (f (k+6) "mirror_in") (mCons (mVar 6) mNil)) (mCons (mOp itD (mVar 3) (mVar 5)) mNil))) (mOp itD (mVar 3) (mVar 5)))) (mDrop (mMeth appendM (mVar 4) (mCons (mVar 7) mNil)))) mNext
noncomputable abbrev RL (w h:Int)(ms:List ((Int×Int)×Str))(a1:Nat)(f0:Int×Int)(n:Nat)(o5 o6 o7:Option D):Rho:=[some (SH w h ms),some (.loc a1),some (PP f0),some (.loc n),some (.loc (n+1)),o5,o6,o7]
theorem turn_W (k:Nat){w h:Int}{ms:List ((Int×Int)×Str)}{f0 here e:Int×Int}{μ3 μ':Hm}{a1:Nat}{s:List (Int×Int)×Tr}(hm:μ3[a1]? = some (.dT (marksD ms)))(I:LI ms f0 μ3 s μ')(hh:here∈keysQ f0 s.2)(hl:s.1.length<=500)(hl2:s.2.length<=500){Q:Fl×Rho×Hm->Prop}
  (H:∀ μ'',LI ms f0 μ3 (vis1 f0 here s e) μ''->(∀ b c,μ3.length+2<=b->μ'[b]? = some c->μ''[b]? = some c)->Q (.nx,RL w h ms a1 f0 μ3.length (some (PP here)) (some (PP e)) (some (PP (mirr here e))),μ'')) :
  W (turnB k (RL w h ms a1 f0 μ3.length (some (PP here)) (some (PP e)) (some (PP (mirr here e)))) μ') Q:=by
 have hmk:=pre_get I.pre hm
 unfold turnB
 simp only [w_mIfS,w_mTest,w_mOp,w_mVar0,w_mVarS]
 refine (w_inT I.dic (keyT_PP _)).mpr ?_
 rw [some_kvD,lay_keys]
 unfold vis1 at H
 by_cases hn:mirr here e∈keysQ f0 s.2
 ·rw [if_pos hn] at H
  simp only [hn,decide_true,Bool.not_true,if_true,Bool.false_eq_true,if_false,w_mNext]
  exact H _ I fun b c _ z=>z
 ·rw [if_neg hn] at H
  simp only [hn,decide_false,Bool.not_false,if_true,w_mSeq,w_mPut,w_mIfE,w_mTest,w_mOp,w_mVar0,w_mVarS]
  refine (w_inT hmk (keyT_PP e)).mpr ?_
  have hv:valDT (kvD (layF (inM ms) [(f0,stillZ)] s.2)) (keyP here)=some (LD (getL (layF (inM ms) [(f0,stillZ)] s.2) here)):=val_kvD (by rw [lay_keys];exact hh)
  have hd:=lay_dih (inM ms) f0 s.2 here
  have es:(valDT (marksD ms) (keyP e)).isSome=inM ms e:=marks_some ms e
  simp only [Bool.false_eq_true,if_false,es]
  have fin:∀ A:Ly,A=st (inM ms) e (getL (layF (inM ms) [(f0,stillZ)] s.2) here)->W (putM (.loc μ3.length) (PP (mirr here e)) (LD A) μ') fun μ''=>W (mDrop (mMeth appendM (mVar 4) (mCons (mVar 7) mNil)) (RL w h ms a1 f0 μ3.length (some (PP here)) (some (PP e)) (some (PP (mirr here e)))) μ'') Q:=by
   rintro A rfl
   refine (w_putT I.dic (keyT_PP _) (by rw [lay_len,sizeLine_eq];omega)).mpr ?_
   rw [put_kvD (by rw [lay_keys];exact hn)]
   have gd:(μ'.set μ3.length (.dT (kvD (layF (inM ms) [(f0,stillZ)] s.2++[(mirr here e,st (inM ms) e (getL (layF (inM ms) [(f0,stillZ)] s.2) here))]))))[μ3.length+1]? = some (.lst (s.1.map PP)):=by
    rw [set_other (by omega)]
    exact I.due
   simp only [w_mDrop]
   refine w_mMeth ?_
   simp only [w_mVar0,w_mVarS]
   refine ⟨isLst_loc gd,?_⟩
   simp only [w_mCons,w_mNil,w_mVar0,w_mVarS]
   refine (w_append gd (by rw [Zl,sizeLine_eq];omega)).mpr ?_
   refine H _ ⟨pre_set (pre_set I.pre (Nat.le_refl _) _) (by omega) _,?_,?_,?_⟩ fun b c hb z=>?_
   ·rw [set_other (by omega),layF_snoc]
    exact set_get I.dic
   ·rw [set_get gd,List.map_append]
    rfl
   ·intro q hq
    show q∈f0::(s.2++[(mirr here e,e,here)]).map (·.1)
    rw [List.map_append]
    rcases List.mem_append.mp hq with hq|hq
    ·rcases List.mem_cons.mp (I.sub q hq) with z|z
     ·exact List.mem_cons.mpr (.inl z)
     ·exact List.mem_cons.mpr (.inr (List.mem_append.mpr (.inl z)))
    ·exact List.mem_cons.mpr (.inr (List.mem_append.mpr (.inr hq)))
   ·rw [set_other (by omega),set_other (by omega)]
    exact z
  cases hi:inM ms e with
  | true=>
   simp only [if_true,w_mCall,w_mCons,w_mNil,w_mVar0,w_mVarS,w_mOp]
   refine (s_mirror_in (k+3) e.1 e.2 _ _).mpr ?_
   refine (w_itT I.dic (keyT_PP _) hv).mpr ((s_then (k+4) _ _ (mirror_dih _) hd _ _).mpr ?_)
   refine fin _ ?_
   unfold st
   rw [hi,if_pos rfl]
  | false=>
   simp only [Bool.false_eq_true,if_false,w_mOp,w_mVar0,w_mVarS]
   refine (w_itT I.dic (keyT_PP _) hv).mpr (fin _ ?_)
   unfold st
   rw [hi,if_neg (by simp)]
theorem run_stop {w h:Int}{f0:Int×Int}{i:Nat}(hi:(runN w h f0 i).1=[]):∀ j,runN w h f0 (i+j)=runN w h f0 i
 | 0=>rfl
 | j+1=>by
  show run1 w h f0 (runN w h f0 (i+j))=_
  rw [run_stop hi j]
  unfold run1
  rw [hi]
  rfl
theorem nb_len (w h:Int)(q:Int×Int):(nbE w h q).length<=4:=Nat.le_trans (List.length_filter_le _ _) (List.length_filter_le _ _)
theorem vis_len (f0 here e:Int×Int)(s:List (Int×Int)×Tr):(vis1 f0 here s e).1.length<=s.1.length+1/\(vis1 f0 here s e).2.length<=s.2.length+1:=by
 unfold vis1
 split
 ·omega
 ·simp
theorem vis_keys {f0 here e q:Int×Int}{s:List (Int×Int)×Tr}(h:q∈keysQ f0 s.2):q∈keysQ f0 (vis1 f0 here s e).2:=by
 unfold vis1
 split
 ·exact h
 ·show q∈f0::(s.2++[(mirr here e,e,here)]).map (·.1)
  rw [List.map_append]
  rcases List.mem_cons.mp h with z|z
  ·exact List.mem_cons.mpr (.inl z)
  ·exact List.mem_cons.mpr (.inr (List.mem_append.mpr (.inl z)))
theorem get_NB {q:Int×Int}{es:List (Int×Int)}{i:Nat}{d:D}(h:(es.map (NB q))[i]? = some d):∃ e,es[i]? = some e/\d=NB q e:=by
 rw [List.getElem?_map] at h
 obtain ⟨e,h1,h2⟩:=Zm.mp h
 exact ⟨e,h1,h2.symm⟩
theorem take_fold {α β:Type}{g:β->α->β}{b:β}{l:List α}{i:Nat}{x:α}(h:l[i]? = some x):(l.take (i+1)).foldl g b=g ((l.take i).foldl g b) x:=by
 rw [List.take_add_one,h,List.foldl_append]
 rfl
theorem s_laid (k:Nat){w h:Int}(hw:1<=w/\w<=3)(hh:1<=h/\h<=3)(ms:List ((Int×Int)×Str))(hb:(placesZ w h).find? (bad ms)=none)(μ:Hm)(Q:D×Hm->Prop)
  (H:∀ a kvs μ',μ <+: μ'->μ'[a]? = some (.dT kvs)->(∀ q∈quartZ w h,valDT kvs (keyP q)=some (LD (getL (layS (inM ms) w h) q)))->Q (.loc a,μ')):W (f (k+7) "laid" [SH w h ms] μ) Q:=by
 obtain ⟨t1,t2,t3,t4,t5,t6,t7⟩:=tree9 w (mem3 hw) h (mem3 hh)
 rw [ev_p_laid,W_fin]
 simp only [w_mSeq,w_mDrop,w_mCall,w_mCons,w_mNil,w_mVar0]
 refine s_check_corners k hw hh ms hb _ _ fun μ1 p1=>?_
 simp only [w_mSet,w_mCall,w_mCons,w_mNil,w_mVar0]
 rw [ev_p_marks_in,W_fin]
 simp only [w_mRet,w_mCall,w_mCons,w_mNil,w_mOp,w_mVar0,w_mC,w_it32,w_dict,List.set_cons_zero,List.set_cons_succ,w_mSeq,w_mSet,w_mVarS,w_it30,w_it31]
 refine s_quarters_in (k+4) w h hw hh _ _ fun b μ3 p3 g3=>?_
 have hf:atI ((qus w h).map PP) 0=some (PP (first w h)):=by
  have hq:qus w h≠[]:=by
   intro z
   have hp:∀ w∈[(1:Int),2,3],∀ h∈[(1:Int),2,3],qus w h≠[]:=by decide +kernel
   exact hp w (mem3 hw) h (mem3 hh) z
  unfold first
  match hz:qus w h,hq with
  | q::qs,_=>
   unfold atI
   rw [ix_ok (Int.le_refl 0) (by simp)]
   rfl
 refine (w_itL g3 hf).mpr ?_
 simp only [List.set_cons_zero,List.set_cons_succ]
 refine (w_disp1 (x:=PP (first w h)) rfl (keyT_PP _)).mpr ?_
 simp only [List.set_cons_zero,List.set_cons_succ,w_mLst,w_mCons,w_mNil,w_mVar0,w_mVarS]
 refine ⟨by show (1:Nat)<=sizeLine;decide,?_⟩
 have hm:μ3[μ1.length]? = some (.dT (marksD ms)):=pre_get p3 (get_last _ _)
 have pq:μ <+: μ3:=p1.trans ((pre_snoc _ _).trans p3)
 refine w_mWhile (fun m ρ μ'=>∃ i,m+i=36/\LI ms (first w h) μ3 (runN w h (first w h) i) μ'/\(runN w h (first w h) i).1.length<=5 * i+1/\(runN w h (first w h) i).2.length<=5 * i/\∃ o5 o6 o7,ρ=RL w h ms μ1.length (first w h) μ3.length o5 o6 o7) 36 (by decide) ⟨0,rfl,⟨?_,?_,?_,?_⟩,by simp [runN],by simp [runN],none,none,none,?_⟩ ?_
 ·exact (pre_snoc _ _).trans (pre_snoc _ _)
 ·refine (pre_get (pre_snoc _ _) (get_last _ _)).trans ?_
  rfl
 ·have:=get_last (μ3++[C.dT [(keyP (first w h),c_STILL)]]) (.lst [PP (first w h)])
  rw [List.length_append] at this
  exact this
 ·intro q hq
  exact List.mem_cons.mpr (.inl (by simpa [runN] using hq))
 ·rw [List.length_append]
  rfl
 ·rintro m ρ μ4 ⟨i,hmi,I,n1,n2,o5,o6,o7,rfl⟩
  simp only [w_mTru,w_mVar0,w_mVarS]
  refine (w_truL I.due).mpr ?_
  generalize hs:runN w h (first w h) i=s at I n1 n2
  rcases List.eq_nil_or_concat s.1 with z|⟨ds,here,z⟩
  ·have e1:(!(s.1.map PP).isEmpty)=false:=by rw [z];rfl
   rw [e1]
   simp only [Bool.false_eq_true,if_false]
   have et:s=runN w h (first w h) 36:=by
    rw [<- hs,<- hmi,Nat.add_comm]
    exact (run_stop (by rw [hs];exact z) m).symm
   have dic:=I.dic
   rw [et] at dic
   simp only [w_mRet,w_mDSort,w_mVar0,w_mVarS]
   have hlen:=lay_len (inM ms) (first w h) (treeZ w h)
   refine (w_dsort dic ?_).mpr ?_
   ·show 2<=(kvD (layF (inM ms) [(first w h,stillZ)] (treeZ w h))).length/\(kvD (layF (inM ms) [(first w h,stillZ)] (treeZ w h))).length<64
    rw [hlen]
    omega
   ·have nd:((layF (inM ms) [(first w h,stillZ)] (treeZ w h)).map (·.1)).Nodup:=by
     rw [layF_keys]
     exact (layF_ok (inM ms) (treeZ w h) [(first w h,stillZ)] t2).2.2 (by simp)
    refine H _ _ _ (pq.trans (I.pre.trans (pre_snoc _ _))) (get_last _ _) fun q hq=>?_
    refine sortKV_val (kvD_nd nd) ?_ (val_kvD (kvs:=layF (inM ms) [(first w h,stillZ)] (treeZ w h)) ?_)
    ·show 0<(kvD (layF (inM ms) [(first w h,stillZ)] (treeZ w h))).length
     rw [hlen]
     omega
    ·rw [lay_keys]
     exact t4 q hq
  ·have e1:(!(s.1.map PP).isEmpty)=true:=by rw [z];simp
   rw [e1]
   simp only [if_true,w_mSeq,w_mSet]
   have hm0:0<m:=by
    rcases Nat.eq_zero_or_pos m with q|q
    ·exfalso
     have:i=36:=by omega
     subst this
     rw [hs] at t1
     rw [t1] at z
     simp at z
    ·exact q
   refine w_mMeth ?_
   simp only [w_mVar0,w_mVarS]
   refine ⟨isLst_loc I.due,?_⟩
   simp only [w_mNil]
   have due:=I.due
   rw [z,List.concat_eq_append,List.map_append] at due
   refine (w_popL due).mpr ?_
   simp only [List.set_cons_zero,List.set_cons_succ,w_mForI,w_iSeq,w_mCall,w_mCons,w_mNil,w_mOp,w_mC,w_mVar0,w_mVarS,w_it30,w_it31]
   have zl:s.1.length=ds.length+1:=by rw [z];simp
   have I1:LI ms (first w h) μ3 (ds,s.2) (μ4.set (μ3.length+1) (.lst (ds.map PP))):=
    ⟨pre_set I.pre (by omega) _,by rw [set_other (by omega)];exact I.dic,set_get due,fun q hq=>I.sub q (by rw [z];simp [hq])⟩
   have hk:here∈keysQ (first w h) s.2:=I.sub here (by rw [z];simp)
   refine s_neighbours_in (k+3) w h here _ _ fun b μ5 p5 g5 l5=>?_
   refine (w_seqL g5).mpr ?_
   have hlt:μ3.length+1<(μ4.set (μ3.length+1) (.lst (ds.map PP))).length:=(Zg.mp I1.due).1
   have I2:LI ms (first w h) μ3 (ds,s.2) μ5:=⟨I1.pre.trans p5,pre_get p5 I1.dic,pre_get p5 I1.due,I1.sub⟩
   have er:runN w h (first w h) (i+1)=(nbE w h here).foldl (vis1 (first w h) here) (ds,s.2):=by
    show run1 w h (first w h) (runN w h (first w h) i)=_
    rw [hs]
    unfold run1
    rw [z]
    simp
   refine w_forL (fun j ρ μ'=>LI ms (first w h) μ3 (((nbE w h here).take j).foldl (vis1 (first w h) here) (ds,s.2)) μ'/\μ'[b]? = some (.lst ((nbE w h here).map (NB here)))/\here∈keysQ (first w h) (((nbE w h here).take j).foldl (vis1 (first w h) here) (ds,s.2)).2 /\
    (((nbE w h here).take j).foldl (vis1 (first w h) here) (ds,s.2)).1.length<=ds.length+j/\(((nbE w h here).take j).foldl (vis1 (first w h) here) (ds,s.2)).2.length<=s.2.length+j/\j<=4/\∃ o6 o7,ρ=RL w h ms μ1.length (first w h) μ3.length (some (PP here)) o6 o7)
    ⟨I2,g5,hk,Nat.le_refl _,Nat.le_refl _,by omega,o6,o7,rfl⟩ (fun j ρ μ' hI=>hI.2.1) ?_ ?_
   ·rintro j d ρ μ6 hd ⟨I6,gb,hk6,m1,m2,hj,o6,o7,rfl⟩
    obtain ⟨e,he,rfl⟩:=get_NB hd
    refine ⟨RL w h ms μ1.length (first w h) μ3.length (some (PP here)) (some (PP e)) (some (PP (mirr here e))),rfl,?_⟩
    have hj1:j<(nbE w h here).length:=(Zg.mp he).1
    have:=nb_len w h here
    refine turn_W k hm I6 hk6 (by omega) (by omega) fun μ7 I7 keep=>?_
    rw [take_fold he]
    have vl:=vis_len (first w h) here e (((nbE w h here).take j).foldl (vis1 (first w h) here) (ds,s.2))
    exact ⟨I7,keep _ _ (by omega) gb,vis_keys hk6,by omega,by omega,by omega,_,_,rfl⟩
   ·rintro ρ μ6 ⟨I6,gb,hk6,m1,m2,hj,o6,o7,rfl⟩
    rw [Zl,List.take_length,<- er] at I6 m1 m2
    have:=nb_len w h here
    exact ⟨m - 1,by omega,i+1,by omega,I6,by omega,by omega,_,_,_,rfl⟩
noncomputable def ahZ (A:Ly)(l:Int×Int):Ly:=
 if l.1=0 then ⟨A.a,-A.b,A.c,-A.d,A.e+2 * l.2 * A.b,A.g+2 * l.2 * A.d⟩ else
 if l.1=1 then ⟨-A.a,A.b,-A.c,A.d,A.e+2 * l.2 * A.a,A.g+2 * l.2 * A.c⟩ else
 if l.1=2 then ⟨A.b,A.a,A.d,A.c,A.e+l.2 * (A.a - A.b),A.g+l.2 * (A.c - A.d)⟩ else
 ⟨-A.b,-A.a,-A.d,-A.c,A.e+l.2 * (A.a+A.b),A.g+l.2 * (A.c+A.d)⟩
theorem w_mulN {n z:Int}(h:-100<=n/\n<=100){μ:Hm}{Q:D×Hm->Prop}:W (mulD (.int n) (.int z) μ) Q↔Q (.int (n * z),μ):=w_mulI (.inl ⟨by omega,by omega⟩)
theorem w_mulN2 {n z:Int}(h:-100<=n/\n<=100){μ:Hm}{Q:D×Hm->Prop}:W (mulD (.int (2 * n)) (.int z) μ) Q↔Q (.int (2 * n * z),μ):=w_mulI (.inl ⟨by omega,by omega⟩)
theorem s_ahead (k:Nat)(A:Ly)(u n:Int)(hn:-100<=n/\n<=100)(μ:Hm)(Q:D×Hm->Prop)(H:Q (LD (ahZ A (u,n)),μ)):W (f (k+1) "_law_ahead" [LD A,P u n] μ) Q:=by
 rw [ev_w_ahead,W_fin]
 unfold ahZ at H
 dsimp only at H
 simp only [w_mSeq,w_mAsg,w_mVar0,w_gTup6,w_gTup2,List.set_cons_zero,List.set_cons_succ,w_mIfS,w_mTest,w_mOp,w_mVarS,w_mC,w_eqI]
 by_cases h0:u=0
 ·rw [if_pos h0] at H
  have e0:(u == 0)=true:=by simpa using h0
  simp only [e0,if_true,w_mRet,w_mTup,w_mCons,w_mNil,w_mVar0,w_mVarS,w_mNeg,w_mOp,w_mC,w_mul2,w_mulN2 hn,w_addI]
  exact ⟨len6,H⟩
 ·rw [if_neg h0] at H
  have e0:(u == 0)=false:=by simpa using h0
  simp only [e0,Bool.false_eq_true,if_false,w_mNext,w_mSeq,w_mIfS,w_mTest,w_mOp,w_mVar0,w_mVarS,w_mC,w_eqI]
  by_cases h1:u=1
  ·rw [if_pos h1] at H
   have e1:(u == 1)=true:=by simpa using h1
   simp only [e1,if_true,w_mRet,w_mTup,w_mCons,w_mNil,w_mVar0,w_mVarS,w_mNeg,w_mOp,w_mC,w_mul2,w_mulN2 hn,w_addI]
   exact ⟨len6,H⟩
  ·rw [if_neg h1] at H
   have e1:(u == 1)=false:=by simpa using h1
   simp only [e1,Bool.false_eq_true,if_false,w_mNext,w_mSeq,w_mIfS,w_mTest,w_mOp,w_mVar0,w_mVarS,w_mC,w_eqI]
   by_cases h2:u=2
   ·rw [if_pos h2] at H
    have e2:(u == 2)=true:=by simpa using h2
    simp only [e2,if_true,w_mRet,w_mTup,w_mCons,w_mNil,w_mVar0,w_mVarS,w_mNeg,w_mOp,w_mC,w_mulN hn,w_addI,w_subI]
    exact ⟨len6,H⟩
   ·rw [if_neg h2] at H
    have e2:(u == 2)=false:=by simpa using h2
    simp only [e2,Bool.false_eq_true,if_false,w_mNext,w_mRet,w_mTup,w_mCons,w_mNil,w_mVar0,w_mVarS,w_mNeg,w_mOp,w_mC,w_mulN hn,w_addI,w_subI]
    exact ⟨len6,H⟩
theorem ah_led (A:Ly)(l p:Int×Int):ledZ (ahZ A l) p=ledZ A (mirZ p l):=by
 unfold ahZ mirZ ledZ
 by_cases h0:l.1=0
 ·rw [if_pos h0,if_pos h0]
  refine Prod.ext ?_ ?_<;>dsimp only<;>grind
 ·rw [if_neg h0,if_neg h0]
  by_cases h1:l.1=1
  ·rw [if_pos h1,if_pos h1]
   refine Prod.ext ?_ ?_<;>dsimp only<;>grind
  ·rw [if_neg h1,if_neg h1]
   by_cases h2:l.1=2
   ·rw [if_pos h2,if_pos h2]
    refine Prod.ext ?_ ?_<;>dsimp only<;>grind
   ·rw [if_neg h2,if_neg h2]
    refine Prod.ext ?_ ?_<;>dsimp only<;>grind
theorem ah_then {e:Int×Int}(h:inE e.1 e.2=true)(A:Ly):ahZ A (lineZ e.1 e.2)=thenZ (mirrorZ e) A:=led_inj fun p=>by
 rw [ah_led,then_led,mirror_led,mirr_line h]
noncomputable def edL (q:Int×Int):List (Int×Int):=if q.1 % 4=2 then [(q.1 - 1,q.2),(q.1+1,q.2),(q.1,q.2+q.2 % 4 - 2)] else [(q.1,q.2 - 1),(q.1,q.2+1),(q.1+q.1 % 4 - 2,q.2)]
theorem s_edgesL (k:Nat)(q:Int×Int)(μ:Hm)(Q:D×Hm->Prop)(H:Q (.loc μ.length,μ++[.lst ((edL q).map PP)])):W (f (k+1) "_law_edges_of" [PP q] μ) Q:=by
 rw [ev_w_edges_of,W_fin]
 simp only [w_mSeq,w_mAsg,w_mVar0,w_gTup2,List.set_cons_zero,List.set_cons_succ,w_mIfS,w_mTest,w_mOp,w_mVarS,w_mC,w_mod4,w_eqI]
 unfold edL at H
 by_cases h:q.1 % 4=2
 ·rw [if_pos h] at H
  have e:(q.1 % 4 == 2)=true:=by simpa using h
  simp only [e,if_true,w_mRet,w_mLst,w_mTup,w_mCons,w_mNil,w_mVar0,w_mVarS,w_mOp,w_mC,w_mod4,w_addI,w_subI,len2,true_and]
  exact ⟨len3,H⟩
 ·rw [if_neg h] at H
  have e:(q.1 % 4 == 2)=false:=by simpa using h
  simp only [e,Bool.false_eq_true,if_false,w_mNext,w_mRet,w_mLst,w_mTup,w_mCons,w_mNil,w_mVar0,w_mVarS,w_mOp,w_mC,w_mod4,w_addI,w_subI,len2,true_and]
  exact ⟨len3,H⟩
theorem edL_len (q:Int×Int):(edL q).length=3:=by
 unfold edL
 split<;>rfl
theorem at3 (q:Int×Int)(i:Int):∃ e∈edL q,atI ((edL q).map PP) (i % 3)=some (PP e):=by
 have h1:=Int.emod_nonneg i (show (3:Int)≠0 by decide)
 have h2:=Int.emod_lt_of_pos i (show (0:Int)<3 by decide)
 have hl:=edL_len q
 have hi:(i % 3).toNat<(edL q).length:=by omega
 refine ⟨(edL q)[(i % 3).toNat],List.getElem_mem hi,?_⟩
 unfold atI
 rw [Zl,ix_ok h1 (by omega),Option.bind_some,List.getElem?_map,List.getElem?_eq_getElem hi]
 rfl
theorem walk9:∀ w∈[(1:Int),2,3],∀ h∈[(1:Int),2,3],(∀ q∈quartZ w h,∀ e∈edL q,e∈innerZ w h->q∈besZ e.1 e.2)/\(∀ e∈innerZ w h,-100<=(lineZ e.1 e.2).2/\(lineZ e.1 e.2).2<=100):=by decide +kernel
theorem perm_two {α:Type}{a b c d:α}(h:[a,b].Perm [c,d]):(a=c/\b=d)\/(a=d/\b=c):=by
 have ha:a∈[c,d]:=h.mem_iff.mp (by simp)
 simp only [List.mem_cons,List.not_mem_nil,or_false] at ha
 rcases ha with rfl|rfl
 ·left
  have:=(List.perm_cons a).mp h
  exact ⟨rfl,List.singleton_perm_singleton.mp this⟩
 ·right
  have h2:=h.trans (List.Perm.swap a c [])
  have:=(List.perm_cons a).mp h2
  exact ⟨rfl,List.singleton_perm_singleton.mp this⟩
theorem s_besideQ (k:Nat)(e:Int×Int)(μ:Hm)(Q:D×Hm->Prop)(H:∀ b q1 q2 μ',μ <+: μ'->μ'[b]? = some (.lst [PP q1,PP q2])->[q1,q2].Perm (besZ e.1 e.2)->Q (.loc b,μ')):W (f (k+1) "_law_beside" [PP e] μ) Q:=by
 obtain ⟨x,y⟩:=e
 rw [ev_w_beside,W_fin]
 simp only [w_mSeq,w_mAsg,w_mVar0,w_gTup2,List.set_cons_zero,List.set_cons_succ,w_mIfS,w_mTest,w_mOp,w_mVarS,w_mC,w_mod4,w_eqI]
 unfold besZ at H
 dsimp only at H
 by_cases h1:y % 4=0
 ·rw [if_pos h1] at H
  simp only [h1,beq_self_eq_true,if_true,w_mRet,w_mLst,w_mTup,w_mCons,w_mNil,w_mC,w_mVar0,w_mVarS,w_mOp,w_subI,w_addI,len2,true_and]
  exact H _ (x,y - 1) (x,y+1) _ (pre_snoc _ _) (get_last _ _) (.refl _)
 ·have e1:(y % 4 == 0)=false:=by simpa using h1
  rw [if_neg h1] at H
  simp only [e1,Bool.false_eq_true,if_false,w_mNext,w_mSeq,w_mIfS,w_mTest,w_mOp,w_mVar0,w_mVarS,w_mC,w_mod4,w_eqI]
  by_cases h2:x % 4=0
  ·rw [if_pos h2] at H
   simp only [h2,beq_self_eq_true,if_true,w_mRet,w_mLst,w_mTup,w_mCons,w_mNil,w_mC,w_mVar0,w_mVarS,w_mOp,w_subI,w_addI,len2,true_and]
   exact H _ (x - 1,y) (x+1,y) _ (pre_snoc _ _) (get_last _ _) (.refl _)
  ·have e2:(x % 4 == 0)=false:=by simpa using h2
   rw [if_neg h2] at H
   simp only [e2,Bool.false_eq_true,if_false,w_mNext,w_mRet,w_mCall,w_mLst,w_mTup,w_mCons,w_mNil,w_mC,w_mVar0,w_mVarS,w_mOp,w_mod4,w_subI,w_addI,len2,true_and]
   refine w_sortP (ps:=[(x+2 - x % 4,y),(x,y+2 - y % 4)]) (get_last _ _) (by simp) fun qs hq=>?_
   match qs,hq,hq.length_eq with
   | [q1,q2],hq,_=>
    exact H _ q1 q2 _ ((pre_snoc _ _).trans (pre_snoc _ _)) (get_last _ _) hq
theorem oth_is {e q q1 q2:Int×Int}(h:[q1,q2].Perm (besZ e.1 e.2))(hq:q∈besZ e.1 e.2):(if q1=q then q2 else q1)=oth e q:=by
 obtain ⟨a,b,hb⟩:=bes_two e.1 e.2
 have hv:oth e q=if q=a then b else a:=by unfold oth;rw [hb]
 rw [hb] at h hq
 simp only [List.mem_cons,List.not_mem_nil,or_false] at hq
 rw [hv]
 rcases perm_two h with ⟨rfl,rfl⟩|⟨rfl,rfl⟩
 ·by_cases z:q1=q
  ·rw [if_pos z,if_pos z.symm]
  ·rw [if_neg z,if_neg (Ne.symm z)]
 ·by_cases z:q1=q
  ·rw [if_pos z]
   by_cases y:q=q2
   ·rw [if_pos y,<- y,z]
   ·rw [if_neg y]
  ·rw [if_neg z,if_pos (hq.resolve_right fun y=>z y.symm)]
noncomputable def fstD:D->D
 | .tup (x::_)=>x
 | d=>d
noncomputable def sndD:D->D
 | .tup [_,y]=>y
 | d=>d
theorem w_addR {μ:Hm}{b:Nat}{xs ys:List D}{Q:D×Hm->Prop}(hb:μ[b]? = some (.lst ys))(hl:xs.length+ys.length<=sizeLine):W (addD (.rol xs) (.loc b) μ) Q↔Q (.loc μ.length,μ++[.lst (xs++ys)]):=by
 simp only [addD,hb,if_pos hl]
 exact W_some
theorem w_neLD {A:Ly}{μ:Hm}{Q:D×Hm->Prop}:W (eqM true (LD A) (LD A) μ) Q↔Q (.bl false,μ):=by
 have:eqM true (LD A) (LD A) μ=some (.bl (!(A.a == A.a&&(A.b == A.b&&(A.c == A.c&&(A.d == A.d&&(A.e == A.e&&(A.g == A.g&&true))))))),μ):=rfl
 rw [this]
 simp only [beq_self_eq_true,Bool.and_true,Bool.not_true]
 exact W_some
theorem bad_none {w h:Int}{ms:List ((Int×Int)×Str)}(hb:(placesZ w h).find? (bad ms)=none):∀ c∈placesZ w h,isC c=true->backB (inM ms) c.1 c.2=true:=fun c hc hi=>by
 have:=List.find?_eq_none.mp hb c hc
 unfold bad at this
 rw [hi] at this
 simpa using this
theorem any_mem (l:List (Int×Int))(e:Int×Int):(l.any fun p=>p == e)=decide (e∈l):=by
 rw [Bool.eq_iff_iff,List.any_eq_true,decide_eq_true_iff]
 constructor
 ·rintro ⟨x,hx,z⟩
  rw [<- beq_iff_eq.mp z]
  exact hx
 ·exact fun h=>⟨e,h,beq_self_eq_true e⟩
noncomputable def endB:MS:=mIfS (mTest (mOp (eqM true) (mOp itD (mVar 2) (mVar 6)) (mVar 7))) (mRet (mC (.bl false))) mNext
noncomputable def midB (k:Nat):MS:=mIfS (mTest (mOp (inD false) (mVar 4) (mVar 5))) (mSet 7 (mCall (f k "_law_ahead") (mCons (mVar 7) (mCons (mCall (f k "_law_line") (mCons (mVar 4) mNil)) mNil)))) mNext
noncomputable def lawB (k:Nat):MS:=mSeq (mSet 4 (mOp itD (mCall (f k "_law_edges_of") (mCons (mVar 6) mNil)) (mOp modD (mVar 8) (mC (.int 3))))) (mSeq (mIfS (mTest (mOp (inD false) (mVar 4) (mVar 3))) (mSeq (mAsg (mCall (f k "_law_beside") (mCons (mVar 4) mNil)) (gTupD [9,10])) (mSeq (mIfS (mTest (mOp (eqM false) (mVar 9) (mVar 6))) (mSet 6 (mVar 10)) (mSet 6 (mVar 9))) (midB k))) mNext) endB)
noncomputable abbrev RW (ns:List Int)(w h:Int)(ms:List ((Int×Int)×Str))(a2 a3 a5:Nat)(q:Int×Int)(A:Ly)(o4 o8 o9 o10:Option D):Rho:=[some (.rol (ns.map D.int)),some (SH w h ms),some (.loc a2),some (.loc a3),o4,some (.loc a5),some (PP q),some (LD A),o8,o9,o10]
theorem step_W (k:Nat)(ns:List Int){w h:Int}(hw:1<=w/\w<=3)(hh:1<=h/\h<=3)(ms:List ((Int×Int)×Str))(hb:(placesZ w h).find? (bad ms)=none)(a2 a3 a5:Nat)(kvs:List (List Int×D))(μ:Hm)(g2:μ[a2]? = some (.dT kvs))(g3:μ[a3]? = some (.lst ((innerZ w h).map PP)))(g5:μ[a5]? = some (.lst ((ms.map (·.1)).map PP)))
  (hv:∀ q∈quartZ w h,valDT kvs (keyP q)=some (LD (getL (layS (inM ms) w h) q))){q:Int×Int}(hq:q∈quartZ w h)(i:Int)(o4 o9 o10:Option D)(Q:Fl×Rho×Hm->Prop)
  (H:∀ q'∈quartZ w h,∀ o4 o9 o10 μ',μ <+: μ'->Q (.nx,RW ns w h ms a2 a3 a5 q' (getL (layS (inM ms) w h) q') o4 (some (.int i)) o9 o10,μ')) :
  W (lawB (k+7) (RW ns w h ms a2 a3 a5 q (getL (layS (inM ms) w h) q) o4 (some (.int i)) o9 o10) μ) Q:=by
 obtain ⟨k1,k2⟩:=walk9 w (mem3 hw) h (mem3 hh)
 obtain ⟨_,_,k3⟩:=facts9 w (mem3 hw) h (mem3 hh)
 have hg:=all_good hw hh (bad_none hb)
 unfold lawB
 simp only [w_mSeq,w_mSet,w_mOp,w_mCall,w_mCons,w_mNil,w_mVar0,w_mVarS]
 refine s_edgesL (k+6) q _ _ ?_
 obtain ⟨e,he,ha⟩:=at3 q i
 simp only [w_mC]
 refine (w_modI (by decide)).mpr ((w_itL (get_last _ _) ha).mpr ?_)
 simp only [List.set_cons_zero,List.set_cons_succ,w_mIfS,w_mTest,w_mOp,w_mVar0,w_mVarS]
 have p1:μ <+: μ++[C.lst ((edL q).map PP)]:=pre_snoc _ _
 generalize μ++[C.lst ((edL q).map PP)]=μ1 at p1
 refine (w_inP (pre_get p1 g3)).mpr ?_
 rw [any_mem]
 have fin:∀ q'∈quartZ w h,∀ o9 o10 μ',μ <+: μ'->W (endB (RW ns w h ms a2 a3 a5 q' (getL (layS (inM ms) w h) q') (some (PP e)) (some (.int i)) o9 o10) μ') Q:=by
  intro q' hq' o9 o10 μ' hp
  unfold endB
  simp only [w_mIfS,w_mTest,w_mOp,w_mVar0,w_mVarS]
  refine (w_itT (pre_get hp g2) (keyT_PP q') (hv q' hq')).mpr ?_
  refine w_neLD.mpr ?_
  simp only [Bool.false_eq_true,if_false,w_mNext]
  exact H q' hq' _ _ _ μ' hp
 by_cases hi:e∈innerZ w h
 ·simp only [hi,decide_true,Bool.false_eq_true,if_false,if_true,w_mSeq,w_mAsg,w_mCall,w_mCons,w_mNil,w_mVar0,w_mVarS]
  have hqb:=k1 q hq e he hi
  have hE:inE e.1 e.2=true:=(List.mem_filter.mp hi).2
  refine s_besideQ (k+6) e _ _ fun b q1 q2 μ2 p2 gb hpm=>?_
  refine (w_gTupL gb).mpr ?_
  simp only [List.set_cons_zero,List.set_cons_succ,w_mIfS,w_mTest,w_mOp,w_mVar0,w_mVarS,w_eqP]
  have hgo:=hg e hi q hqb
  have ho:oth e q∈quartZ w h:=k3 e hi _ (oth_oth hqb).1
  have hot:=oth_is hpm hqb
  have hbq:((q1.1 == q.1)&&((q1.2 == q.2)&&true))=decide (q1=q):=by
   rw [Bool.and_true,Bool.eq_iff_iff,Bool.and_eq_true,beq_iff_eq,beq_iff_eq,decide_eq_true_iff]
   exact Prod.ext_iff.symm
  rw [hbq]
  have p12:=p1.trans p2
  have rest:W (midB (k+7) (RW ns w h ms a2 a3 a5 (oth e q) (getL (layS (inM ms) w h) q) (some (PP e)) (some (.int i)) (some (PP q1)) (some (PP q2))) μ2) fun r=>match r.1 with|.nx=>W (endB r.2.1 r.2.2) Q|_=>Q r:=by
   unfold midB
   simp only [w_mIfS,w_mTest,w_mOp,w_mVar0,w_mVarS]
   refine (w_inP (pre_get p12 g5)).mpr ?_
   show if (if false=true then _ else inM ms e)=true then _ else _
   simp only [Bool.false_eq_true,if_false]
   unfold st at hgo
   cases hm:inM ms e with
   | true=>
    rw [hm,if_pos rfl] at hgo
    simp only [if_true,w_mSet,w_mCall,w_mCons,w_mNil,w_mVar0,w_mVarS]
    refine (s_line (k+6) e.1 e.2 _ _).mpr ?_
    refine s_ahead (k+6) _ _ _ (k2 e hi) _ _ ?_
    rw [show (((lineZ e.1 e.2).1,(lineZ e.1 e.2).2):Int×Int)=lineZ e.1 e.2 from rfl,ah_then hE,<- hgo]
    simp only [List.set_cons_zero,List.set_cons_succ]
    exact fin _ ho _ _ _ p12
   | false=>
    rw [hm,if_neg (by simp)] at hgo
    simp only [Bool.false_eq_true,if_false,w_mNext]
    rw [<- hgo]
    exact fin _ ho _ _ _ p12
  by_cases z:q1=q
  ·rw [if_pos z] at hot
   simp only [z,decide_true,if_true,w_mSet,w_mVar0,w_mVarS,List.set_cons_zero,List.set_cons_succ]
   rw [hot]
   rw [z,hot] at rest
   exact rest
  ·rw [if_neg z] at hot
   simp only [z,decide_false,Bool.false_eq_true,if_false,w_mSet,w_mVar0,w_mVarS,List.set_cons_zero,List.set_cons_succ]
   rw [hot]
   rw [hot] at rest
   exact rest
 ·simp only [hi,decide_false,Bool.false_eq_true,if_false,w_mNext]
  exact fin q hq _ _ _ p1
theorem law_W (k:Nat)(ns:List Int)(hns:ns.length<=63)(μ:Hm):W (f (k+8) "law" [.rol (ns.map D.int)] μ) fun r=>r.1=.bl true:=by
 rw [ev_p_law,W_fin]
 simp only [w_mSeq,w_mSet,w_mCall,w_mCons,w_mNil,w_mVar0,w_mC,w_mLst]
 refine ⟨by decide,?_⟩
 refine s_sheet (k+3) ns _ [0,0,0,3] (by decide) _ (get_last _ _) _ fun w h ms μ1 hw hh p1 hl=>?_
 simp only [List.set_cons_zero,List.set_cons_succ,w_mIfS,w_mTest,w_mOp,w_mCall,w_mCons,w_mNil,w_mVar0,w_mVarS,w_mC]
 refine s_barred (k+2) hw hh ms _ _ fun μ2 p2=>?_
 cases hb:(placesZ w h).find? (bad ms) with
 | some c=>
  simp only [optD,w_isnotTN,if_true,w_mRet,w_mC]
 | none=>
  simp only [optD,w_isnotNN,Bool.false_eq_true,if_false,w_mNext,w_mSeq,w_mSet,w_mCall,w_mCons,w_mNil,w_mVar0,w_mVarS]
  refine s_laid k hw hh ms hb _ _ fun a2 kvs μ3 p3 g3 hv=>?_
  simp only [List.set_cons_zero,List.set_cons_succ,w_mOp,w_mC,w_mVar0,w_mVarS,w_it30,w_it31]
  refine s_inner (k+6) w h hw hh _ _ ?_
  simp only [List.set_cons_zero,List.set_cons_succ]
  have g4:=get_last μ3 (.lst ((innerZ w h).map PP))
  have p4:=pre_snoc μ3 (C.lst ((innerZ w h).map PP))
  generalize hμ4:μ3++[C.lst ((innerZ w h).map PP)]=μ4 at g4 p4
  refine w_compT (xs:=ms.map MD) (x:=fun d=>[some (fstD d),some (sndD d)]) (p:=fun _=>true) (v:=fstD) ?_
  simp only [w_iSeq,w_mOp,w_mVar0,w_mVarS,w_mC,w_it32]
  refine w_seqT.mpr ⟨src_tup,rfl,by rw [Zl,sizeLine_eq];omega,fun d μ' hd=>?_,fun d μ' hd hp=>w_mTrue.mpr ⟨rfl,List.prefix_refl _⟩,fun d μ' hd _ hp=>?_,fun μ5 p5 g5=>?_⟩
  ·obtain ⟨m,_,rfl⟩:=List.mem_map.mp hd
   rfl
  ·obtain ⟨m,_,rfl⟩:=List.mem_map.mp hd
   simp only [List.cons_append,List.nil_append,w_mVar0,w_mVarS]
   exact ⟨trivial,List.prefix_refl _⟩
  ·have g5':μ5[μ4.length]? = some (.lst ((ms.map (·.1)).map PP)):=by
    rw [g5,filter_all,List.map_map,List.map_map]
    rfl
   refine s_quarters (k+6) w h hw hh _ _ ?_
   obtain ⟨t1,t2,t3,t4,t5,t6,t7⟩:=tree9 w (mem3 hw) h (mem3 hh)
   obtain ⟨⟨hne,_⟩,_⟩:=facts9 w (mem3 hw) h (mem3 hh)
   have hf:first w h∈quartZ w h/\atI ((quartZ w h).map PP) 0=some (PP (first w h)):=by
    rw [t5]
    match hz:quartZ w h,hne with
    | q::qs,_=>
     refine ⟨List.mem_cons_self ..,?_⟩
     unfold atI
     rw [ix_ok (Int.le_refl 0) (by simp)]
     rfl
   refine (w_itL (get_last _ _) hf.2).mpr ?_
   have p6:=pre_snoc μ5 (C.lst ((quartZ w h).map PP))
   generalize hμ6:μ5++[C.lst ((quartZ w h).map PP)]=μ6 at p6
   simp only [List.set_cons_zero,List.set_cons_succ,w_mTup,w_mCons,w_mNil,w_mC,w_mVar0,w_mVarS,w_mForI,w_iSeq,w_mOp,w_mLst]
   refine ⟨len6,by decide,?_⟩
   refine (w_addR (get_last _ _) (by rw [Zl,sizeLine_eq];simp;omega)).mpr ?_
   refine (w_seqL (get_last _ _)).mpr ?_
   have e0:getL (layS (inM ms) w h) (first w h)=stillZ:=by
    have:=(layF_ok (inM ms) (treeZ w h) [(first w h,stillZ)] t2).1 (first w h) (by simp)
    show getL (layF (inM ms) [(first w h,stillZ)] (treeZ w h)) (first w h)=stillZ
    rw [this]
    simp [getL]
   have p7:=(pre_snoc μ6 (C.lst [.int 0])).trans (pre_snoc _ (C.lst (ns.map D.int++[.int 0])))
   have g7:=get_last (μ6++[C.lst [.int 0]]) (.lst (ns.map D.int++[.int 0]))
   generalize (μ6++[C.lst [.int 0]])++[C.lst (ns.map D.int++[.int 0])]=μ7 at p7 g7
   generalize (μ6++[C.lst [.int 0]]).length=a7 at g7
   have p47:μ4 <+: μ7:=p5.trans (p6.trans p7)
   refine w_forL (fun i ρ μ'=>μ7 <+: μ'/\∃ q∈quartZ w h,∃ o4 o8 o9 o10,ρ=RW ns w h ms a2 μ3.length μ4.length q (getL (layS (inM ms) w h) q) o4 o8 o9 o10) ⟨List.prefix_refl _,first w h,hf.1,none,none,none,none,by rw [e0];rfl⟩ (fun i ρ μ' hI=>pre_get hI.1 g7) ?_ ?_
   ·rintro i d ρ μ8 hd ⟨p8,q,hq,o4,o8,o9,o10,rfl⟩
    have hd':∃ z:Int,d=.int z:=by
     have:=List.mem_of_getElem? hd
     rcases List.mem_append.mp this with z|z
     ·obtain ⟨y,_,rfl⟩:=List.mem_map.mp z
      exact ⟨y,rfl⟩
     ·exact ⟨0,List.mem_singleton.mp z⟩
    obtain ⟨z,rfl⟩:=hd'
    refine ⟨RW ns w h ms a2 μ3.length μ4.length q (getL (layS (inM ms) w h) q) o4 (some (.int z)) o9 o10,rfl,?_⟩
    have p48:=p47.trans p8
    refine step_W k ns hw hh ms hb a2 μ3.length μ4.length kvs μ8 (pre_get (p4.trans p48) g3) (pre_get p48 g4) (pre_get (p6.trans (p7.trans p8)) g5') hv hq z o4 o9 o10 _ fun q' hq' o4' o9' o10' μ9 p9=>?_
    exact ⟨p8.trans p9,q',hq',_,_,_,_,rfl⟩
   ·rintro ρ μ8 ⟨p8,q,hq,o4,o8,o9,o10,rfl⟩
    simp only [w_mRet,w_mC]
theorem law_true:∀ ns:List Int,ns.length<=63->∃ μ',fnM S ds 8 "law" [.rol (ns.map D.int)] []=some (.bl true,μ'):=fun ns h63=>by
 obtain ⟨⟨d,μ'⟩,h1,h2⟩:=law_W 0 ns h63 []
 dsimp only at h2
 subst h2
 refine ⟨μ',?_⟩
 unfold f at h1
 exact h1
end Lw
namespace Lw
open PySem L2 L3
theorem len_1 {α:Type}{us:List α}(h:us.length=1):∃ x0,us=[x0]:=match us,h with|[_],_=>⟨_,rfl⟩
theorem len_2 {α:Type}{us:List α}(h:us.length=2):∃ x0 x1,us=[x0,x1]:=match us,h with|[_,_],_=>⟨_,_,rfl⟩
theorem len_3 {α:Type}{us:List α}(h:us.length=3):∃ x0 x1 x2,us=[x0,x1,x2]:=match us,h with|[_,_,_],_=>⟨_,_,_,rfl⟩
theorem len_4 {α:Type}{us:List α}(h:us.length=4):∃ x0 x1 x2 x3,us=[x0,x1,x2,x3]:=match us,h with|[_,_,_,_],_=>⟨_,_,_,_,rfl⟩
noncomputable abbrev fA (K:PySem.W.Frag)(x:Str)(f:Addr):Prop:=PySem.W.nsIn K mainGlobals x=some (some (.ref f))
noncomputable abbrev fL (K:PySem.W.Frag)(x:Str)(n:Nat)(f:Addr)(oc:Value)(od:Option Addr)(kV dc pm:Value)(an:Option Addr)(cd ct:Value)(sl:Array (Option Value)):Prop:=K.lookup f=some ⟨oc,od,.func (PySem.W.fnOf x x (defArgs (top n)) (defBody (top n)) (defScope (top n)) .none kV dc pm an cd ct),sl⟩
noncomputable abbrev fC (K:PySem.W.Frag)(cd:Value)(x:Str):Prop:=PySem.W.codeIn K cd x=true
noncomputable abbrev fK (K:PySem.W.Frag)(f:Addr):Prop:=PySem.W.keepIn K (.ref f)=true
theorem all_mk {P:Program}{w:World}{K:PySem.W.Frag}
  {f0} {od0 an0 sl0} {oc0 kV0 dc0 pm0 cd0 ct0}
  (a0:fA K "is_whole" f0) (l0:fL K "is_whole" 6 f0 oc0 od0 kV0 dc0 pm0 an0 cd0 ct0 sl0) (c0:fC K cd0 "is_whole") (k0:fK K f0)
  {f1} {od1 an1 sl1} {oc1 kV1 dc1 pm1 cd1 ct1}
  (a1:fA K "is_corner" f1) (l1:fL K "is_corner" 7 f1 oc1 od1 kV1 dc1 pm1 an1 cd1 ct1 sl1) (c1:fC K cd1 "is_corner") (k1:fK K f1)
  {f2} {od2 an2 sl2} {oc2 kV2 dc2 pm2 cd2 ct2}
  (a2:fA K "is_edge" f2) (l2:fL K "is_edge" 8 f2 oc2 od2 kV2 dc2 pm2 an2 cd2 ct2 sl2) (c2:fC K cd2 "is_edge") (k2:fK K f2)
  {f3} {od3 an3 sl3} {oc3 kV3 dc3 pm3 cd3 ct3}
  (a3:fA K "is_quarter" f3) (l3:fL K "is_quarter" 9 f3 oc3 od3 kV3 dc3 pm3 an3 cd3 ct3 sl3) (c3:fC K cd3 "is_quarter") (k3:fK K f3)
  {f4} {od4 an4 sl4} {oc4 kV4 dc4 pm4 cd4 ct4}
  (a4:fA K "line_of" f4) (l4:fL K "line_of" 10 f4 oc4 od4 kV4 dc4 pm4 an4 cd4 ct4 sl4) (c4:fC K cd4 "line_of") (k4:fK K f4)
  {f5} {od5 an5 sl5} {oc5 kV5 dc5 pm5 cd5 ct5}
  (a5:fA K "beside" f5) (l5:fL K "beside" 11 f5 oc5 od5 kV5 dc5 pm5 an5 cd5 ct5 sl5) (c5:fC K cd5 "beside") (k5:fK K f5)
  {f6} {od6 an6 sl6} {oc6 kV6 dc6 pm6 cd6 ct6}
  (a6:fA K "edges_of" f6) (l6:fL K "edges_of" 12 f6 oc6 od6 kV6 dc6 pm6 an6 cd6 ct6 sl6) (c6:fC K cd6 "edges_of") (k6:fK K f6)
  {f7} {od7 an7 sl7} {oc7 kV7 dc7 pm7 cd7 ct7}
  (a7:fA K "moved_by" f7) (l7:fL K "moved_by" 13 f7 oc7 od7 kV7 dc7 pm7 an7 cd7 ct7 sl7) (c7:fC K cd7 "moved_by") (k7:fK K f7)
  {f8} {od8 an8 sl8} {oc8 kV8 dc8 pm8 cd8 ct8}
  (a8:fA K "edges_round" f8) (l8:fL K "edges_round" 14 f8 oc8 od8 kV8 dc8 pm8 an8 cd8 ct8 sl8) (c8:fC K cd8 "edges_round") (k8:fK K f8)
  {f9} {od9 an9 sl9} {oc9 kV9 dc9 pm9 cd9 ct9}
  (a9:fA K "number_by" f9) (l9:fL K "number_by" 15 f9 oc9 od9 kV9 dc9 pm9 an9 cd9 ct9 sl9) (c9:fC K cd9 "number_by") (k9:fK K f9)
  {f10} {od10 an10 sl10} {oc10 kV10 dc10 pm10 cd10 ct10}
  (a10:fA K "mirrored" f10) (l10:fL K "mirrored" 16 f10 oc10 od10 kV10 dc10 pm10 an10 cd10 ct10 sl10) (c10:fC K cd10 "mirrored") (k10:fK K f10)
  {f11} {od11 an11 sl11} {oc11 kV11 dc11 pm11 cd11 ct11}
  (a11:fA K "is_within" f11) (l11:fL K "is_within" 18 f11 oc11 od11 kV11 dc11 pm11 an11 cd11 ct11 sl11) (c11:fC K cd11 "is_within") (k11:fK K f11)
  {f12} {od12 an12 sl12} {oc12 kV12 dc12 pm12 cd12 ct12}
  (a12:fA K "places_within" f12) (l12:fL K "places_within" 19 f12 oc12 od12 kV12 dc12 pm12 an12 cd12 ct12 sl12) (c12:fC K cd12 "places_within") (k12:fK K f12)
  {f13} {od13 an13 sl13} {oc13 kV13 dc13 pm13 cd13 ct13}
  (a13:fA K "quarters_in" f13) (l13:fL K "quarters_in" 20 f13 oc13 od13 kV13 dc13 pm13 an13 cd13 ct13 sl13) (c13:fC K cd13 "quarters_in") (k13:fK K f13)
  {f14} {od14 an14 sl14} {oc14 kV14 dc14 pm14 cd14 ct14}
  (a14:fA K "corners_in" f14) (l14:fL K "corners_in" 21 f14 oc14 od14 kV14 dc14 pm14 an14 cd14 ct14 sl14) (c14:fC K cd14 "corners_in") (k14:fK K f14)
  {f15} {od15 an15 sl15} {oc15 kV15 dc15 pm15 cd15 ct15}
  (a15:fA K "neighbours_in" f15) (l15:fL K "neighbours_in" 22 f15 oc15 od15 kV15 dc15 pm15 an15 cd15 ct15 sl15) (c15:fC K cd15 "neighbours_in") (k15:fK K f15)
  {f16} {od16 an16 sl16} {oc16 kV16 dc16 pm16 cd16 ct16}
  (a16:fA K "marks_in" f16) (l16:fL K "marks_in" 23 f16 oc16 od16 kV16 dc16 pm16 an16 cd16 ct16 sl16) (c16:fC K cd16 "marks_in") (k16:fK K f16)
  {f17} {od17 an17 sl17} {oc17 kV17 dc17 pm17 cd17 ct17}
  (a17:fA K "is_good" f17) (l17:fL K "is_good" 25 f17 oc17 od17 kV17 dc17 pm17 an17 cd17 ct17 sl17) (c17:fC K cd17 "is_good") (k17:fK K f17)
  {f18} {od18 an18 sl18} {oc18 kV18 dc18 pm18 cd18 ct18}
  (a18:fA K "creases_at" f18) (l18:fL K "creases_at" 27 f18 oc18 od18 kV18 dc18 pm18 an18 cd18 ct18 sl18) (c18:fC K cd18 "creases_at") (k18:fK K f18)
  {f19} {od19 an19 sl19} {oc19 kV19 dc19 pm19 cd19 ct19}
  (a19:fA K "gaps_at" f19) (l19:fL K "gaps_at" 28 f19 oc19 od19 kV19 dc19 pm19 an19 cd19 ct19 sl19) (c19:fC K cd19 "gaps_at") (k19:fK K f19)
  {f20} {od20 an20 sl20} {oc20 kV20 dc20 pm20 cd20 ct20}
  (a20:fA K "barred" f20) (l20:fL K "barred" 29 f20 oc20 od20 kV20 dc20 pm20 an20 cd20 ct20 sl20) (c20:fC K cd20 "barred") (k20:fK K f20)
  {f21} {od21 an21 sl21} {oc21 kV21 dc21 pm21 cd21 ct21}
  (a21:fA K "check_corners" f21) (l21:fL K "check_corners" 30 f21 oc21 od21 kV21 dc21 pm21 an21 cd21 ct21 sl21) (c21:fC K cd21 "check_corners") (k21:fK K f21)
  {f22} {od22 an22 sl22} {oc22 kV22 dc22 pm22 cd22 ct22}
  (a22:fA K "laying_by" f22) (l22:fL K "laying_by" 33 f22 oc22 od22 kV22 dc22 pm22 an22 cd22 ct22 sl22) (c22:fC K cd22 "laying_by") (k22:fK K f22)
  {f23} {od23 an23 sl23} {oc23 kV23 dc23 pm23 cd23 ct23}
  (a23:fA K "mirror_in" f23) (l23:fL K "mirror_in" 34 f23 oc23 od23 kV23 dc23 pm23 an23 cd23 ct23 sl23) (c23:fC K cd23 "mirror_in") (k23:fK K f23)
  {f24} {od24 an24 sl24} {oc24 kV24 dc24 pm24 cd24 ct24}
  (a24:fA K "led" f24) (l24:fL K "led" 35 f24 oc24 od24 kV24 dc24 pm24 an24 cd24 ct24 sl24) (c24:fC K cd24 "led") (k24:fK K f24)
  {f25} {od25 an25 sl25} {oc25 kV25 dc25 pm25 cd25 ct25}
  (a25:fA K "then" f25) (l25:fL K "then" 36 f25 oc25 od25 kV25 dc25 pm25 an25 cd25 ct25 sl25) (c25:fC K cd25 "then") (k25:fK K f25)
  {f26} {od26 an26 sl26} {oc26 kV26 dc26 pm26 cd26 ct26}
  (a26:fA K "laid" f26) (l26:fL K "laid" 38 f26 oc26 od26 kV26 dc26 pm26 an26 cd26 ct26 sl26) (c26:fC K cd26 "laid") (k26:fK K f26)
  {f27} {od27 an27 sl27} {oc27 kV27 dc27 pm27 cd27 ct27}
  (a27:fA K "_law_cell" f27) (l27:fL K "_law_cell" 40 f27 oc27 od27 kV27 dc27 pm27 an27 cd27 ct27 sl27) (c27:fC K cd27 "_law_cell") (k27:fK K f27)
  {f28} {od28 an28 sl28} {oc28 kV28 dc28 pm28 cd28 ct28}
  (a28:fA K "_law_inner" f28) (l28:fL K "_law_inner" 41 f28 oc28 od28 kV28 dc28 pm28 an28 cd28 ct28 sl28) (c28:fC K cd28 "_law_inner") (k28:fK K f28)
  {f29} {od29 an29 sl29} {oc29 kV29 dc29 pm29 cd29 ct29}
  (a29:fA K "_law_line" f29) (l29:fL K "_law_line" 42 f29 oc29 od29 kV29 dc29 pm29 an29 cd29 ct29 sl29) (c29:fC K cd29 "_law_line") (k29:fK K f29)
  {f30} {od30 an30 sl30} {oc30 kV30 dc30 pm30 cd30 ct30}
  (a30:fA K "_law_beside" f30) (l30:fL K "_law_beside" 43 f30 oc30 od30 kV30 dc30 pm30 an30 cd30 ct30 sl30) (c30:fC K cd30 "_law_beside") (k30:fK K f30)
  {f31} {od31 an31 sl31} {oc31 kV31 dc31 pm31 cd31 ct31}
  (a31:fA K "_law_quarters" f31) (l31:fL K "_law_quarters" 44 f31 oc31 od31 kV31 dc31 pm31 an31 cd31 ct31 sl31) (c31:fC K cd31 "_law_quarters") (k31:fK K f31)
  {f32} {od32 an32 sl32} {oc32 kV32 dc32 pm32 cd32 ct32}
  (a32:fA K "_law_led" f32) (l32:fL K "_law_led" 45 f32 oc32 od32 kV32 dc32 pm32 an32 cd32 ct32 sl32) (c32:fC K cd32 "_law_led") (k32:fK K f32)
  {f33} {od33 an33 sl33} {oc33 kV33 dc33 pm33 cd33 ct33}
  (a33:fA K "_law_over" f33) (l33:fL K "_law_over" 46 f33 oc33 od33 kV33 dc33 pm33 an33 cd33 ct33 sl33) (c33:fC K cd33 "_law_over") (k33:fK K f33)
  {f34} {od34 an34 sl34} {oc34 kV34 dc34 pm34 cd34 ct34}
  (a34:fA K "_law_value" f34) (l34:fL K "_law_value" 47 f34 oc34 od34 kV34 dc34 pm34 an34 cd34 ct34 sl34) (c34:fC K cd34 "_law_value") (k34:fK K f34)
  {f35} {od35 an35 sl35} {oc35 kV35 dc35 pm35 cd35 ct35}
  (a35:fA K "_law_grown" f35) (l35:fL K "_law_grown" 48 f35 oc35 od35 kV35 dc35 pm35 an35 cd35 ct35 sl35) (c35:fC K cd35 "_law_grown") (k35:fK K f35)
  {f36} {od36 an36 sl36} {oc36 kV36 dc36 pm36 cd36 ct36}
  (a36:fA K "_law_by_lines" f36) (l36:fL K "_law_by_lines" 49 f36 oc36 od36 kV36 dc36 pm36 an36 cd36 ct36 sl36) (c36:fC K cd36 "_law_by_lines") (k36:fK K f36)
  {f37} {od37 an37 sl37} {oc37 kV37 dc37 pm37 cd37 ct37}
  (a37:fA K "_law_creased" f37) (l37:fL K "_law_creased" 50 f37 oc37 od37 kV37 dc37 pm37 an37 cd37 ct37 sl37) (c37:fC K cd37 "_law_creased") (k37:fK K f37)
  {f38} {od38 an38 sl38} {oc38 kV38 dc38 pm38 cd38 ct38}
  (a38:fA K "_law_sheet_by_digits" f38) (l38:fL K "_law_sheet_by_digits" 51 f38 oc38 od38 kV38 dc38 pm38 an38 cd38 ct38 sl38) (c38:fC K cd38 "_law_sheet_by_digits") (k38:fK K f38)
  {f39} {od39 an39 sl39} {oc39 kV39 dc39 pm39 cd39 ct39}
  (a39:fA K "_law_sheet" f39) (l39:fL K "_law_sheet" 52 f39 oc39 od39 kV39 dc39 pm39 an39 cd39 ct39 sl39) (c39:fC K cd39 "_law_sheet") (k39:fK K f39)
  {f40} {od40 an40 sl40} {oc40 kV40 dc40 pm40 cd40 ct40}
  (a40:fA K "_law_edges_of" f40) (l40:fL K "_law_edges_of" 53 f40 oc40 od40 kV40 dc40 pm40 an40 cd40 ct40 sl40) (c40:fC K cd40 "_law_edges_of") (k40:fK K f40)
  {f41} {od41 an41 sl41} {oc41 kV41 dc41 pm41 cd41 ct41}
  (a41:fA K "_law_ahead" f41) (l41:fL K "_law_ahead" 54 f41 oc41 od41 kV41 dc41 pm41 an41 cd41 ct41 sl41) (c41:fC K cd41 "_law_ahead") (k41:fK K f41)
  {f42} {od42 an42 sl42} {oc42 kV42 dc42 pm42 cd42 ct42}
  (a42:fA K "law" f42) (l42:fL K "law" 55 f42 oc42 od42 kV42 dc42 pm42 an42 cd42 ct42 sl42) (c42:fC K cd42 "law") (k42:fK K f42)
  {q0:Addr}{q1:Addr}{t2:Tok}{t3:Tok}{q4:Addr}{t5:Tok}{t6:Tok}{q7:Addr}{t8:Tok}{t9:Tok}{q10:Addr}{t11:Tok}{t12:Tok}{q13:Addr}{t14:Tok}{t15:Tok}{q16:Addr}{t17:Tok}{t18:Tok}{q19:Addr}{t20:Tok}{t21:Tok}{q22:Addr}{t23:Tok}{t24:Tok}{q25:Addr}{q26:Addr}{t27:Tok}{t28:Tok}{q29:Addr}{t30:Tok}{t31:Tok}{q32:Addr}{t33:Tok}{t34:Tok}{q35:Addr}{t36:Tok}{t37:Tok}{q38:Addr}{t39:Tok}{t40:Tok}{t41:Tok}{t42:Tok}{t43:Tok}{t44:Tok}{q0n:Nat}{q1n:Nat}{q4n:Nat}{q7n:Nat}{q10n:Nat}{q13n:Nat}{q16n:Nat}{q19n:Nat}{q22n:Nat}{q25n:Nat}{q26n:Nat}{q29n:Nat}{q32n:Nat}{q35n:Nat}{q38n:Nat}
  (g_EIGHT_EDGES:PySem.W.nsIn K mainGlobals "EIGHT_EDGES" = some (some (.ref q0)))
  (hq0:K.lookup q0=some { cls:=.type "tuple",data:=.seq #[.ref q1,.ref q4,.ref q7,.ref q10,.ref q13,.ref q16,.ref q19,.ref q22] q0n })
  (hq1:K.lookup q1=some { cls:=.type "tuple",data:=.seq #[.int 2 t2,.int 0 t3] q1n })
  (hq4:K.lookup q4=some { cls:=.type "tuple",data:=.seq #[.int 1 t5,.int 1 t6] q4n })
  (hq7:K.lookup q7=some { cls:=.type "tuple",data:=.seq #[.int 0 t8,.int 2 t9] q7n })
  (hq10:K.lookup q10=some { cls:=.type "tuple",data:=.seq #[.int (-1) t11,.int 1 t12] q10n })
  (hq13:K.lookup q13=some { cls:=.type "tuple",data:=.seq #[.int (-2) t14,.int 0 t15] q13n })
  (hq16:K.lookup q16=some { cls:=.type "tuple",data:=.seq #[.int (-1) t17,.int (-1) t18] q16n })
  (hq19:K.lookup q19=some { cls:=.type "tuple",data:=.seq #[.int 0 t20,.int (-2) t21] q19n })
  (hq22:K.lookup q22=some { cls:=.type "tuple",data:=.seq #[.int 1 t23,.int (-1) t24] q22n })
  (g_FOUR_EDGES:PySem.W.nsIn K mainGlobals "FOUR_EDGES" = some (some (.ref q25)))
  (hq25:K.lookup q25=some { cls:=.type "tuple",data:=.seq #[.ref q26,.ref q29,.ref q32,.ref q35] q25n })
  (hq26:K.lookup q26=some { cls:=.type "tuple",data:=.seq #[.int 1 t27,.int 1 t28] q26n })
  (hq29:K.lookup q29=some { cls:=.type "tuple",data:=.seq #[.int (-1) t30,.int 1 t31] q29n })
  (hq32:K.lookup q32=some { cls:=.type "tuple",data:=.seq #[.int (-1) t33,.int (-1) t34] q32n })
  (hq35:K.lookup q35=some { cls:=.type "tuple",data:=.seq #[.int 1 t36,.int (-1) t37] q35n })
  (g_STILL:PySem.W.nsIn K mainGlobals "STILL" = some (some (.ref q38)))
  (hq38:K.lookup q38=some { cls:=.type "tuple",data:=.seq #[.int 1 t39,.int 0 t40,.int 0 t41,.int 1 t42,.int 0 t43,.int 0 t44] q38n })
  (z_all:PySem.W.nsIn K mainGlobals "all" = some none)
  (z_bool:PySem.W.nsIn K mainGlobals "bool" = some none)
  (z_dict:PySem.W.nsIn K mainGlobals "dict" = some none)
  (z_enumerate:PySem.W.nsIn K mainGlobals "enumerate" = some none)
  (z_int:PySem.W.nsIn K mainGlobals "int" = some none)
  (z_isinstance:PySem.W.nsIn K mainGlobals "isinstance" = some none)
  (z_len:PySem.W.nsIn K mainGlobals "len" = some none)
  (z_list:PySem.W.nsIn K mainGlobals "list" = some none)
  (z_range:PySem.W.nsIn K mainGlobals "range" = some none)
  (z_sorted:PySem.W.nsIn K mainGlobals "sorted" = some none)
  (z_sum:PySem.W.nsIn K mainGlobals "sum" = some none)
  (z_tuple:PySem.W.nsIn K mainGlobals "tuple" = some none)
  (z_zip:PySem.W.nsIn K mainGlobals "zip" = some none)
  {h:Heap}{mg:Str → Option Value}(X:K.In h)(G:h.Ns mainGlobals mg):TxtOk P w K mg S ds ∧ ∃ f fd,Fun K "law" "law" (top 55) f fd ∧ mg "law" = some (.ref f) ∧ ∀ (s:Shared)(u:Value),BindsTo s fd ⟨[u],[]⟩ [("_law_script",u)]:=by
 have F0:=fun_mk (st:=top 6) l0 c0 k0
 have D0:DefAt K mg "is_whole" (top 6):=⟨_,_,F0,PySem.W.mg_of X G a0,F0.binds (ps:=["value"]) fun _ _ _ _ _ _ us hl=>by obtain ⟨_,rfl⟩:=len_1 hl;rfl⟩
 have F1:=fun_mk (st:=top 7) l1 c1 k1
 have D1:DefAt K mg "is_corner" (top 7):=⟨_,_,F1,PySem.W.mg_of X G a1,F1.binds (ps:=["place"]) fun _ _ _ _ _ _ us hl=>by obtain ⟨_,rfl⟩:=len_1 hl;rfl⟩
 have F2:=fun_mk (st:=top 8) l2 c2 k2
 have D2:DefAt K mg "is_edge" (top 8):=⟨_,_,F2,PySem.W.mg_of X G a2,F2.binds (ps:=["place"]) fun _ _ _ _ _ _ us hl=>by obtain ⟨_,rfl⟩:=len_1 hl;rfl⟩
 have F3:=fun_mk (st:=top 9) l3 c3 k3
 have D3:DefAt K mg "is_quarter" (top 9):=⟨_,_,F3,PySem.W.mg_of X G a3,F3.binds (ps:=["place"]) fun _ _ _ _ _ _ us hl=>by obtain ⟨_,rfl⟩:=len_1 hl;rfl⟩
 have F4:=fun_mk (st:=top 10) l4 c4 k4
 have D4:DefAt K mg "line_of" (top 10):=⟨_,_,F4,PySem.W.mg_of X G a4,F4.binds (ps:=["edge"]) fun _ _ _ _ _ _ us hl=>by obtain ⟨_,rfl⟩:=len_1 hl;rfl⟩
 have F5:=fun_mk (st:=top 11) l5 c5 k5
 have D5:DefAt K mg "beside" (top 11):=⟨_,_,F5,PySem.W.mg_of X G a5,F5.binds (ps:=["place"]) fun _ _ _ _ _ _ us hl=>by obtain ⟨_,rfl⟩:=len_1 hl;rfl⟩
 have F6:=fun_mk (st:=top 12) l6 c6 k6
 have D6:DefAt K mg "edges_of" (top 12):=⟨_,_,F6,PySem.W.mg_of X G a6,F6.binds (ps:=["quarter"]) fun _ _ _ _ _ _ us hl=>by obtain ⟨_,rfl⟩:=len_1 hl;rfl⟩
 have F7:=fun_mk (st:=top 13) l7 c7 k7
 have D7:DefAt K mg "moved_by" (top 13):=⟨_,_,F7,PySem.W.mg_of X G a7,F7.binds (ps:=["place","steps"]) fun _ _ _ _ _ _ us hl=>by obtain ⟨_,_,rfl⟩:=len_2 hl;rfl⟩
 have F8:=fun_mk (st:=top 14) l8 c8 k8
 have D8:DefAt K mg "edges_round" (top 14):=⟨_,_,F8,PySem.W.mg_of X G a8,F8.binds (ps:=["corner"]) fun _ _ _ _ _ _ us hl=>by obtain ⟨_,rfl⟩:=len_1 hl;rfl⟩
 have F9:=fun_mk (st:=top 15) l9 c9 k9
 have D9:DefAt K mg "number_by" (top 15):=⟨_,_,F9,PySem.W.mg_of X G a9,F9.binds (ps:=["line","place"]) fun _ _ _ _ _ _ us hl=>by obtain ⟨_,_,rfl⟩:=len_2 hl;rfl⟩
 have F10:=fun_mk (st:=top 16) l10 c10 k10
 have D10:DefAt K mg "mirrored" (top 16):=⟨_,_,F10,PySem.W.mg_of X G a10,F10.binds (ps:=["place","edge"]) fun _ _ _ _ _ _ us hl=>by obtain ⟨_,_,rfl⟩:=len_2 hl;rfl⟩
 have F11:=fun_mk (st:=top 18) l11 c11 k11
 have D11:DefAt K mg "is_within" (top 18):=⟨_,_,F11,PySem.W.mg_of X G a11,F11.binds (ps:=["wide","high","place"]) fun _ _ _ _ _ _ us hl=>by obtain ⟨_,_,_,rfl⟩:=len_3 hl;rfl⟩
 have F12:=fun_mk (st:=top 19) l12 c12 k12
 have D12:DefAt K mg "places_within" (top 19):=⟨_,_,F12,PySem.W.mg_of X G a12,F12.binds (ps:=["wide","high"]) fun _ _ _ _ _ _ us hl=>by obtain ⟨_,_,rfl⟩:=len_2 hl;rfl⟩
 have F13:=fun_mk (st:=top 20) l13 c13 k13
 have D13:DefAt K mg "quarters_in" (top 20):=⟨_,_,F13,PySem.W.mg_of X G a13,F13.binds (ps:=["wide","high"]) fun _ _ _ _ _ _ us hl=>by obtain ⟨_,_,rfl⟩:=len_2 hl;rfl⟩
 have F14:=fun_mk (st:=top 21) l14 c14 k14
 have D14:DefAt K mg "corners_in" (top 21):=⟨_,_,F14,PySem.W.mg_of X G a14,F14.binds (ps:=["wide","high"]) fun _ _ _ _ _ _ us hl=>by obtain ⟨_,_,rfl⟩:=len_2 hl;rfl⟩
 have F15:=fun_mk (st:=top 22) l15 c15 k15
 have D15:DefAt K mg "neighbours_in" (top 22):=⟨_,_,F15,PySem.W.mg_of X G a15,F15.binds (ps:=["wide","high","quarter"]) fun _ _ _ _ _ _ us hl=>by obtain ⟨_,_,_,rfl⟩:=len_3 hl;rfl⟩
 have F16:=fun_mk (st:=top 23) l16 c16 k16
 have D16:DefAt K mg "marks_in" (top 23):=⟨_,_,F16,PySem.W.mg_of X G a16,F16.binds (ps:=["sheet"]) fun _ _ _ _ _ _ us hl=>by obtain ⟨_,rfl⟩:=len_1 hl;rfl⟩
 have F17:=fun_mk (st:=top 25) l17 c17 k17
 have D17:DefAt K mg "is_good" (top 25):=⟨_,_,F17,PySem.W.mg_of X G a17,F17.binds (ps:=["gaps"]) fun _ _ _ _ _ _ us hl=>by obtain ⟨_,rfl⟩:=len_1 hl;rfl⟩
 have F18:=fun_mk (st:=top 27) l18 c18 k18
 have D18:DefAt K mg "creases_at" (top 27):=⟨_,_,F18,PySem.W.mg_of X G a18,F18.binds (ps:=["sheet","corner"]) fun _ _ _ _ _ _ us hl=>by obtain ⟨_,_,rfl⟩:=len_2 hl;rfl⟩
 have F19:=fun_mk (st:=top 28) l19 c19 k19
 have D19:DefAt K mg "gaps_at" (top 28):=⟨_,_,F19,PySem.W.mg_of X G a19,F19.binds (ps:=["sheet","corner"]) fun _ _ _ _ _ _ us hl=>by obtain ⟨_,_,rfl⟩:=len_2 hl;rfl⟩
 have F20:=fun_mk (st:=top 29) l20 c20 k20
 have D20:DefAt K mg "barred" (top 29):=⟨_,_,F20,PySem.W.mg_of X G a20,F20.binds (ps:=["sheet"]) fun _ _ _ _ _ _ us hl=>by obtain ⟨_,rfl⟩:=len_1 hl;rfl⟩
 have F21:=fun_mk (st:=top 30) l21 c21 k21
 have D21:DefAt K mg "check_corners" (top 30):=⟨_,_,F21,PySem.W.mg_of X G a21,F21.binds (ps:=["sheet"]) fun _ _ _ _ _ _ us hl=>by obtain ⟨_,rfl⟩:=len_1 hl;rfl⟩
 have F22:=fun_mk (st:=top 33) l22 c22 k22
 have D22:DefAt K mg "laying_by" (top 33):=⟨_,_,F22,PySem.W.mg_of X G a22,F22.binds (ps:=["start","right","down"]) fun _ _ _ _ _ _ us hl=>by obtain ⟨_,_,_,rfl⟩:=len_3 hl;rfl⟩
 have F23:=fun_mk (st:=top 34) l23 c23 k23
 have D23:DefAt K mg "mirror_in" (top 34):=⟨_,_,F23,PySem.W.mg_of X G a23,F23.binds (ps:=["edge"]) fun _ _ _ _ _ _ us hl=>by obtain ⟨_,rfl⟩:=len_1 hl;rfl⟩
 have F24:=fun_mk (st:=top 35) l24 c24 k24
 have D24:DefAt K mg "led" (top 35):=⟨_,_,F24,PySem.W.mg_of X G a24,F24.binds (ps:=["laying","place"]) fun _ _ _ _ _ _ us hl=>by obtain ⟨_,_,rfl⟩:=len_2 hl;rfl⟩
 have F25:=fun_mk (st:=top 36) l25 c25 k25
 have D25:DefAt K mg "then" (top 36):=⟨_,_,F25,PySem.W.mg_of X G a25,F25.binds (ps:=["one","other"]) fun _ _ _ _ _ _ us hl=>by obtain ⟨_,_,rfl⟩:=len_2 hl;rfl⟩
 have F26:=fun_mk (st:=top 38) l26 c26 k26
 have D26:DefAt K mg "laid" (top 38):=⟨_,_,F26,PySem.W.mg_of X G a26,F26.binds (ps:=["sheet"]) fun _ _ _ _ _ _ us hl=>by obtain ⟨_,rfl⟩:=len_1 hl;rfl⟩
 have F27:=fun_mk (st:=top 40) l27 c27 k27
 have D27:DefAt K mg "_law_cell" (top 40):=⟨_,_,F27,PySem.W.mg_of X G a27,F27.binds (ps:=["_law_script","_law_k"]) fun _ _ _ _ _ _ us hl=>by obtain ⟨_,_,rfl⟩:=len_2 hl;rfl⟩
 have F28:=fun_mk (st:=top 41) l28 c28 k28
 have D28:DefAt K mg "_law_inner" (top 41):=⟨_,_,F28,PySem.W.mg_of X G a28,F28.binds (ps:=["_law_wide","_law_high"]) fun _ _ _ _ _ _ us hl=>by obtain ⟨_,_,rfl⟩:=len_2 hl;rfl⟩
 have F29:=fun_mk (st:=top 42) l29 c29 k29
 have D29:DefAt K mg "_law_line" (top 42):=⟨_,_,F29,PySem.W.mg_of X G a29,F29.binds (ps:=["_law_edge"]) fun _ _ _ _ _ _ us hl=>by obtain ⟨_,rfl⟩:=len_1 hl;rfl⟩
 have F30:=fun_mk (st:=top 43) l30 c30 k30
 have D30:DefAt K mg "_law_beside" (top 43):=⟨_,_,F30,PySem.W.mg_of X G a30,F30.binds (ps:=["_law_edge"]) fun _ _ _ _ _ _ us hl=>by obtain ⟨_,rfl⟩:=len_1 hl;rfl⟩
 have F31:=fun_mk (st:=top 44) l31 c31 k31
 have D31:DefAt K mg "_law_quarters" (top 44):=⟨_,_,F31,PySem.W.mg_of X G a31,F31.binds (ps:=["_law_wide","_law_high"]) fun _ _ _ _ _ _ us hl=>by obtain ⟨_,_,rfl⟩:=len_2 hl;rfl⟩
 have F32:=fun_mk (st:=top 45) l32 c32 k32
 have D32:DefAt K mg "_law_led" (top 45):=⟨_,_,F32,PySem.W.mg_of X G a32,F32.binds (ps:=["_law_laying","_law_place"]) fun _ _ _ _ _ _ us hl=>by obtain ⟨_,_,rfl⟩:=len_2 hl;rfl⟩
 have F33:=fun_mk (st:=top 46) l33 c33 k33
 have D33:DefAt K mg "_law_over" (top 46):=⟨_,_,F33,PySem.W.mg_of X G a33,F33.binds (ps:=["_law_laying","_law_line_here"]) fun _ _ _ _ _ _ us hl=>by obtain ⟨_,_,rfl⟩:=len_2 hl;rfl⟩
 have F34:=fun_mk (st:=top 47) l34 c34 k34
 have D34:DefAt K mg "_law_value" (top 47):=⟨_,_,F34,PySem.W.mg_of X G a34,F34.binds (ps:=["_law_place","_law_kind"]) fun _ _ _ _ _ _ us hl=>by obtain ⟨_,_,rfl⟩:=len_2 hl;rfl⟩
 have F35:=fun_mk (st:=top 48) l35 c35 k35
 have D35:DefAt K mg "_law_grown" (top 48):=⟨_,_,F35,PySem.W.mg_of X G a35,F35.binds (ps:=["_law_wide","_law_high","_law_folds"]) fun _ _ _ _ _ _ us hl=>by obtain ⟨_,_,_,rfl⟩:=len_3 hl;rfl⟩
 have F36:=fun_mk (st:=top 49) l36 c36 k36
 have D36:DefAt K mg "_law_by_lines" (top 49):=⟨_,_,F36,PySem.W.mg_of X G a36,F36.binds (ps:=["_law_edges","_law_number"]) fun _ _ _ _ _ _ us hl=>by obtain ⟨_,_,rfl⟩:=len_2 hl;rfl⟩
 have F37:=fun_mk (st:=top 50) l37 c37 k37
 have D37:DefAt K mg "_law_creased" (top 50):=⟨_,_,F37,PySem.W.mg_of X G a37,F37.binds (ps:=["_law_script","_law_wide","_law_high","_law_ways"]) fun _ _ _ _ _ _ us hl=>by obtain ⟨_,_,_,_,rfl⟩:=len_4 hl;rfl⟩
 have F38:=fun_mk (st:=top 51) l38 c38 k38
 have D38:DefAt K mg "_law_sheet_by_digits" (top 51):=⟨_,_,F38,PySem.W.mg_of X G a38,F38.binds (ps:=["_law_script","_law_wide","_law_high"]) fun _ _ _ _ _ _ us hl=>by obtain ⟨_,_,_,rfl⟩:=len_3 hl;rfl⟩
 have F39:=fun_mk (st:=top 52) l39 c39 k39
 have D39:DefAt K mg "_law_sheet" (top 52):=⟨_,_,F39,PySem.W.mg_of X G a39,F39.binds (ps:=["_law_script","_law_most","_law_ways"]) fun _ _ _ _ _ _ us hl=>by obtain ⟨_,_,_,rfl⟩:=len_3 hl;rfl⟩
 have F40:=fun_mk (st:=top 53) l40 c40 k40
 have D40:DefAt K mg "_law_edges_of" (top 53):=⟨_,_,F40,PySem.W.mg_of X G a40,F40.binds (ps:=["_law_quarter"]) fun _ _ _ _ _ _ us hl=>by obtain ⟨_,rfl⟩:=len_1 hl;rfl⟩
 have F41:=fun_mk (st:=top 54) l41 c41 k41
 have D41:DefAt K mg "_law_ahead" (top 54):=⟨_,_,F41,PySem.W.mg_of X G a41,F41.binds (ps:=["_law_laying","_law_line_here"]) fun _ _ _ _ _ _ us hl=>by obtain ⟨_,_,rfl⟩:=len_2 hl;rfl⟩
 have F42:=fun_mk (st:=top 55) l42 c42 k42
 have D42:DefAt K mg "law" (top 55):=⟨_,_,F42,PySem.W.mg_of X G a42,F42.binds (ps:=["_law_script"]) fun _ _ _ _ _ _ us hl=>by obtain ⟨_,rfl⟩:=len_1 hl;rfl⟩
 refine ⟨⟨fun x n e=>?_,fun x st e=>?_,fun x d e=>?_,fun x kvs e=>?_,fun x e=>?_⟩,_,_,F42,PySem.W.mg_of X G a42,fun s u=>.of_eq rfl⟩
 ·exact fns_of (by decide +kernel) x n e
 ·refine defs_of ?_ x st e
  refine Zf.mpr ⟨⟨D0,by decide +kernel⟩,Zf.mpr ⟨⟨D1,by decide +kernel⟩,Zf.mpr ⟨⟨D2,by decide +kernel⟩,Zf.mpr ⟨⟨D3,by decide +kernel⟩,Zf.mpr ⟨⟨D4,by decide +kernel⟩,Zf.mpr ⟨⟨D5,by decide +kernel⟩,Zf.mpr ⟨⟨D6,by decide +kernel⟩,Zf.mpr ⟨⟨D7,by decide +kernel⟩,Zf.mpr ⟨⟨D8,by decide +kernel⟩,Zf.mpr ⟨⟨D9,by decide +kernel⟩,Zf.mpr ⟨⟨D10,by decide +kernel⟩,Zf.mpr ⟨⟨D11,by decide +kernel⟩,Zf.mpr ⟨⟨D12,by decide +kernel⟩,Zf.mpr ⟨⟨D13,by decide +kernel⟩,Zf.mpr ⟨⟨D14,by decide +kernel⟩,Zf.mpr ⟨⟨D15,by decide +kernel⟩,Zf.mpr ⟨⟨D16,by decide +kernel⟩,Zf.mpr ⟨⟨D17,by decide +kernel⟩,Zf.mpr ⟨⟨D18,by decide +kernel⟩,Zf.mpr ⟨⟨D19,by decide +kernel⟩,Zf.mpr ⟨⟨D20,by decide +kernel⟩,Zf.mpr ⟨⟨D21,by decide +kernel⟩,Zf.mpr ⟨⟨D22,by decide +kernel⟩,Zf.mpr ⟨⟨D23,by decide +kernel⟩,Zf.mpr ⟨⟨D24,by decide +kernel⟩,Zf.mpr ⟨⟨D25,by decide +kernel⟩,Zf.mpr ⟨⟨D26,by decide +kernel⟩,Zf.mpr ⟨⟨D27,by decide +kernel⟩,Zf.mpr ⟨⟨D28,by decide +kernel⟩,Zf.mpr ⟨⟨D29,by decide +kernel⟩,Zf.mpr ⟨⟨D30,by decide +kernel⟩,Zf.mpr ⟨⟨D31,by decide +kernel⟩,Zf.mpr ⟨⟨D32,by decide +kernel⟩,Zf.mpr ⟨⟨D33,by decide +kernel⟩,Zf.mpr ⟨⟨D34,by decide +kernel⟩,Zf.mpr ⟨⟨D35,by decide +kernel⟩,Zf.mpr ⟨⟨D36,by decide +kernel⟩,Zf.mpr ⟨⟨D37,by decide +kernel⟩,Zf.mpr ⟨⟨D38,by decide +kernel⟩,Zf.mpr ⟨⟨D39,by decide +kernel⟩,Zf.mpr ⟨⟨D40,by decide +kernel⟩,Zf.mpr ⟨⟨D41,by decide +kernel⟩,Zf.mpr ⟨⟨D42,by decide +kernel⟩,fun _ z=>nomatch z⟩⟩⟩⟩⟩⟩⟩⟩⟩⟩⟩⟩⟩⟩⟩⟩⟩⟩⟩⟩⟩⟩⟩⟩⟩⟩⟩⟩⟩⟩⟩⟩⟩⟩⟩⟩⟩⟩⟩⟩⟩⟩⟩
 ·refine con_of ?_ x d e
  refine Zf.mpr ⟨⟨(.ref q0),_,PySem.W.mg_of X G g_EIGHT_EDGES,rfl,fun _ _ _=>(.tup (vs:=[(.ref q1),(.ref q4),(.ref q7),(.ref q10),(.ref q13),(.ref q16),(.ref q19),(.ref q22)]) (.inr ⟨_,#[.ref q1,.ref q4,.ref q7,.ref q10,.ref q13,.ref q16,.ref q19,.ref q22],q0n,hq0,rfl,rfl,rfl,size_le (n:=8) rfl (by decide),.cons rfl (.cons rfl (.cons rfl (.cons rfl (.cons rfl (.cons rfl (.cons rfl (.cons rfl (.nil))))))))⟩) (.cons (.tup (vs:=[(.int 2),(.int 0)]) (.inr ⟨_,#[.int 2 t2,.int 0 t3],q1n,hq1,rfl,rfl,rfl,size_le (n:=2) rfl (by decide),.cons ⟨_,rfl⟩ (.cons ⟨_,rfl⟩ (.nil))⟩) (.cons (.int _) (.cons (.int _) (.nil)))) (.cons (.tup (vs:=[(.int 1),(.int 1)]) (.inr ⟨_,#[.int 1 t5,.int 1 t6],q4n,hq4,rfl,rfl,rfl,size_le (n:=2) rfl (by decide),.cons ⟨_,rfl⟩ (.cons ⟨_,rfl⟩ (.nil))⟩) (.cons (.int _) (.cons (.int _) (.nil)))) (.cons (.tup (vs:=[(.int 0),(.int 2)]) (.inr ⟨_,#[.int 0 t8,.int 2 t9],q7n,hq7,rfl,rfl,rfl,size_le (n:=2) rfl (by decide),.cons ⟨_,rfl⟩ (.cons ⟨_,rfl⟩ (.nil))⟩) (.cons (.int _) (.cons (.int _) (.nil)))) (.cons (.tup (vs:=[(.int (-1)),(.int 1)]) (.inr ⟨_,#[.int (-1) t11,.int 1 t12],q10n,hq10,rfl,rfl,rfl,size_le (n:=2) rfl (by decide),.cons ⟨_,rfl⟩ (.cons ⟨_,rfl⟩ (.nil))⟩) (.cons (.int _) (.cons (.int _) (.nil)))) (.cons (.tup (vs:=[(.int (-2)),(.int 0)]) (.inr ⟨_,#[.int (-2) t14,.int 0 t15],q13n,hq13,rfl,rfl,rfl,size_le (n:=2) rfl (by decide),.cons ⟨_,rfl⟩ (.cons ⟨_,rfl⟩ (.nil))⟩) (.cons (.int _) (.cons (.int _) (.nil)))) (.cons (.tup (vs:=[(.int (-1)),(.int (-1))]) (.inr ⟨_,#[.int (-1) t17,.int (-1) t18],q16n,hq16,rfl,rfl,rfl,size_le (n:=2) rfl (by decide),.cons ⟨_,rfl⟩ (.cons ⟨_,rfl⟩ (.nil))⟩) (.cons (.int _) (.cons (.int _) (.nil)))) (.cons (.tup (vs:=[(.int 0),(.int (-2))]) (.inr ⟨_,#[.int 0 t20,.int (-2) t21],q19n,hq19,rfl,rfl,rfl,size_le (n:=2) rfl (by decide),.cons ⟨_,rfl⟩ (.cons ⟨_,rfl⟩ (.nil))⟩) (.cons (.int _) (.cons (.int _) (.nil)))) (.cons (.tup (vs:=[(.int 1),(.int (-1))]) (.inr ⟨_,#[.int 1 t23,.int (-1) t24],q22n,hq22,rfl,rfl,rfl,size_le (n:=2) rfl (by decide),.cons ⟨_,rfl⟩ (.cons ⟨_,rfl⟩ (.nil))⟩) (.cons (.int _) (.cons (.int _) (.nil)))) (.nil))))))))))⟩,Zf.mpr ⟨⟨(.ref q25),_,PySem.W.mg_of X G g_FOUR_EDGES,rfl,fun _ _ _=>(.tup (vs:=[(.ref q26),(.ref q29),(.ref q32),(.ref q35)]) (.inr ⟨_,#[.ref q26,.ref q29,.ref q32,.ref q35],q25n,hq25,rfl,rfl,rfl,size_le (n:=4) rfl (by decide),.cons rfl (.cons rfl (.cons rfl (.cons rfl (.nil))))⟩) (.cons (.tup (vs:=[(.int 1),(.int 1)]) (.inr ⟨_,#[.int 1 t27,.int 1 t28],q26n,hq26,rfl,rfl,rfl,size_le (n:=2) rfl (by decide),.cons ⟨_,rfl⟩ (.cons ⟨_,rfl⟩ (.nil))⟩) (.cons (.int _) (.cons (.int _) (.nil)))) (.cons (.tup (vs:=[(.int (-1)),(.int 1)]) (.inr ⟨_,#[.int (-1) t30,.int 1 t31],q29n,hq29,rfl,rfl,rfl,size_le (n:=2) rfl (by decide),.cons ⟨_,rfl⟩ (.cons ⟨_,rfl⟩ (.nil))⟩) (.cons (.int _) (.cons (.int _) (.nil)))) (.cons (.tup (vs:=[(.int (-1)),(.int (-1))]) (.inr ⟨_,#[.int (-1) t33,.int (-1) t34],q32n,hq32,rfl,rfl,rfl,size_le (n:=2) rfl (by decide),.cons ⟨_,rfl⟩ (.cons ⟨_,rfl⟩ (.nil))⟩) (.cons (.int _) (.cons (.int _) (.nil)))) (.cons (.tup (vs:=[(.int 1),(.int (-1))]) (.inr ⟨_,#[.int 1 t36,.int (-1) t37],q35n,hq35,rfl,rfl,rfl,size_le (n:=2) rfl (by decide),.cons ⟨_,rfl⟩ (.cons ⟨_,rfl⟩ (.nil))⟩) (.cons (.int _) (.cons (.int _) (.nil)))) (.nil))))))⟩,Zf.mpr ⟨⟨(.ref q38),_,PySem.W.mg_of X G g_STILL,rfl,fun _ _ _=>(.tup (vs:=[(.int 1),(.int 0),(.int 0),(.int 1),(.int 0),(.int 0)]) (.inr ⟨_,#[.int 1 t39,.int 0 t40,.int 0 t41,.int 1 t42,.int 0 t43,.int 0 t44],q38n,hq38,rfl,rfl,rfl,size_le (n:=6) rfl (by decide),.cons ⟨_,rfl⟩ (.cons ⟨_,rfl⟩ (.cons ⟨_,rfl⟩ (.cons ⟨_,rfl⟩ (.cons ⟨_,rfl⟩ (.cons ⟨_,rfl⟩ (.nil))))))⟩) (.cons (.int _) (.cons (.int _) (.cons (.int _) (.cons (.int _) (.cons (.int _) (.cons (.int _) (.nil))))))))⟩,fun _ z=>nomatch z⟩⟩⟩
 ·cases e
 ·refine no_of ?_ x e
  refine Zf.mpr ⟨PySem.W.mg_none_of X G z_all,Zf.mpr ⟨PySem.W.mg_none_of X G z_bool,Zf.mpr ⟨PySem.W.mg_none_of X G z_dict,Zf.mpr ⟨PySem.W.mg_none_of X G z_enumerate,Zf.mpr ⟨PySem.W.mg_none_of X G z_int,Zf.mpr ⟨PySem.W.mg_none_of X G z_isinstance,Zf.mpr ⟨PySem.W.mg_none_of X G z_len,Zf.mpr ⟨PySem.W.mg_none_of X G z_list,Zf.mpr ⟨PySem.W.mg_none_of X G z_range,Zf.mpr ⟨PySem.W.mg_none_of X G z_sorted,Zf.mpr ⟨PySem.W.mg_none_of X G z_sum,Zf.mpr ⟨PySem.W.mg_none_of X G z_tuple,Zf.mpr ⟨PySem.W.mg_none_of X G z_zip,fun _ z=>nomatch z⟩⟩⟩⟩⟩⟩⟩⟩⟩⟩⟩⟩⟩
end Lw
open PySem PySem.W PyProof.Rows
set_option maxRecDepth 100000 in
set_option maxHeartbeats 0 in
theorem PySem.Challenge.cw_creasecourt_k45_whole_whichever_way_holds : PySem.Challenge.rw_creasecourt_k45_whole_whichever_way.Holds := by
 w_on
 refine holds_law (by decide +kernel) fun said=>?_
 refine holds_open (q:=Lw.Vw) (loose:=[]) (Xt:=fun s=>xlAt Lw.Vw [] s&&recOk (RowW.records (OpenRow.toRowW (OpenLaw.row PySem.Challenge.rw_creasecourt_k45_whole_whichever_way))) s) (XP:=XL Lw.Vw []) (Yf:=Hook.obs (kHook Lw.Kx Lw.As Lw.ks_eq)) (Ya:=Hook.val (kHook Lw.Kx Lw.As Lw.ks_eq)) (YP:=Hook.says (kHook Lw.Kx Lw.As Lw.ks_eq)) (N:=4016) Lw.run (Hook.of _) (Hook.keeps _) (fun s e=>xl_of s (Bool.and_eq_true_iff.mp e).1) XL.keeps (by rfl) (by rfl) (by rfl) (fun s e=>recFacts_of (Bool.and_eq_true_iff.mp e).2) (by rfl) (by first|assumption|decide +kernel) (by decide +kernel) ⟨rfl,rfl,rfl,rfl,rfl,by decide +kernel⟩ ?hw ?hc
 case hw=>w_witness2
 k_fill
 refine L3.walkM (l:=PySem.Challenge.rw_creasecourt_k45_whole_whichever_way) (S:=Lw.S) (ds:=Lw.ds) (k:=8) (st:=Lw.top 55) (x:="_law_script") rfl rfl ⟨rfl,by decide,by decide⟩ (fun w h Y=>PySem.W.kIn_of Y) (by kernel_rfl) (by kernel_rfl) ?F (fun ns h _=>Lw.law_true ns h)
 case F=>
  intro w mg h KX G
  refine' Lw.all_mk (P:=PySem.Challenge.pw_creasecourt_k45_whole_whichever_way) (w:=w) ?a0 ?l0 ?c0 ?k0 ?a1 ?l1 ?c1 ?k1 ?a2 ?l2 ?c2 ?k2 ?a3 ?l3 ?c3 ?k3 ?a4 ?l4 ?c4 ?k4 ?a5 ?l5 ?c5 ?k5 ?a6 ?l6 ?c6 ?k6 ?a7 ?l7 ?c7 ?k7 ?a8 ?l8 ?c8 ?k8 ?a9 ?l9 ?c9 ?k9 ?a10 ?l10 ?c10 ?k10 ?a11 ?l11 ?c11 ?k11 ?a12 ?l12 ?c12 ?k12 ?a13 ?l13 ?c13 ?k13 ?a14 ?l14 ?c14 ?k14 ?a15 ?l15 ?c15 ?k15 ?a16 ?l16 ?c16 ?k16 ?a17 ?l17 ?c17 ?k17 ?a18 ?l18 ?c18 ?k18 ?a19 ?l19 ?c19 ?k19 ?a20 ?l20 ?c20 ?k20 ?a21 ?l21 ?c21 ?k21 ?a22 ?l22 ?c22 ?k22 ?a23 ?l23 ?c23 ?k23 ?a24 ?l24 ?c24 ?k24 ?a25 ?l25 ?c25 ?k25 ?a26 ?l26 ?c26 ?k26 ?a27 ?l27 ?c27 ?k27 ?a28 ?l28 ?c28 ?k28 ?a29 ?l29 ?c29 ?k29 ?a30 ?l30 ?c30 ?k30 ?a31 ?l31 ?c31 ?k31 ?a32 ?l32 ?c32 ?k32 ?a33 ?l33 ?c33 ?k33 ?a34 ?l34 ?c34 ?k34 ?a35 ?l35 ?c35 ?k35 ?a36 ?l36 ?c36 ?k36 ?a37 ?l37 ?c37 ?k37 ?a38 ?l38 ?c38 ?k38 ?a39 ?l39 ?c39 ?k39 ?a40 ?l40 ?c40 ?k40 ?a41 ?l41 ?c41 ?k41 ?a42 ?l42 ?c42 ?k42 ?g_EIGHT_EDGES ?hq0 ?hq1 ?hq4 ?hq7 ?hq10 ?hq13 ?hq16 ?hq19 ?hq22 ?g_FOUR_EDGES ?hq25 ?hq26 ?hq29 ?hq32 ?hq35 ?g_STILL ?hq38 ?z_all ?z_bool ?z_dict ?z_enumerate ?z_int ?z_isinstance ?z_len ?z_list ?z_range ?z_sorted ?z_sum ?z_tuple ?z_zip KX G
  (case a0=>show _=_;k_is)
  (case l0=>show _=_;k_is)
  (case c0=>show _=_;k_is)
  (case k0=>show _=_;k_is)
  (case a1=>show _=_;k_is)
  (case l1=>show _=_;k_is)
  (case c1=>show _=_;k_is)
  (case k1=>show _=_;k_is)
  (case a2=>show _=_;k_is)
  (case l2=>show _=_;k_is)
  (case c2=>show _=_;k_is)
  (case k2=>show _=_;k_is)
  (case a3=>show _=_;k_is)
  (case l3=>show _=_;k_is)
  (case c3=>show _=_;k_is)
  (case k3=>show _=_;k_is)
  (case a4=>show _=_;k_is)
  (case l4=>show _=_;k_is)
  (case c4=>show _=_;k_is)
  (case k4=>show _=_;k_is)
  (case a5=>show _=_;k_is)
  (case l5=>show _=_;k_is)
  (case c5=>show _=_;k_is)
  (case k5=>show _=_;k_is)
  (case a6=>show _=_;k_is)
  (case l6=>show _=_;k_is)
  (case c6=>show _=_;k_is)
  (case k6=>show _=_;k_is)
  (case a7=>show _=_;k_is)
  (case l7=>show _=_;k_is)
  (case c7=>show _=_;k_is)
  (case k7=>show _=_;k_is)
  (case a8=>show _=_;k_is)
  (case l8=>show _=_;k_is)
  (case c8=>show _=_;k_is)
  (case k8=>show _=_;k_is)
  (case a9=>show _=_;k_is)
  (case l9=>show _=_;k_is)
  (case c9=>show _=_;k_is)
  (case k9=>show _=_;k_is)
  (case a10=>show _=_;k_is)
  (case l10=>show _=_;k_is)
  (case c10=>show _=_;k_is)
  (case k10=>show _=_;k_is)
  (case a11=>show _=_;k_is)
  (case l11=>show _=_;k_is)
  (case c11=>show _=_;k_is)
  (case k11=>show _=_;k_is)
  (case a12=>show _=_;k_is)
  (case l12=>show _=_;k_is)
  (case c12=>show _=_;k_is)
  (case k12=>show _=_;k_is)
  (case a13=>show _=_;k_is)
  (case l13=>show _=_;k_is)
  (case c13=>show _=_;k_is)
  (case k13=>show _=_;k_is)
  (case a14=>show _=_;k_is)
  (case l14=>show _=_;k_is)
  (case c14=>show _=_;k_is)
  (case k14=>show _=_;k_is)
  (case a15=>show _=_;k_is)
  (case l15=>show _=_;k_is)
  (case c15=>show _=_;k_is)
  (case k15=>show _=_;k_is)
  (case a16=>show _=_;k_is)
  (case l16=>show _=_;k_is)
  (case c16=>show _=_;k_is)
  (case k16=>show _=_;k_is)
  (case a17=>show _=_;k_is)
  (case l17=>show _=_;k_is)
  (case c17=>show _=_;k_is)
  (case k17=>show _=_;k_is)
  (case a18=>show _=_;k_is)
  (case l18=>show _=_;k_is)
  (case c18=>show _=_;k_is)
  (case k18=>show _=_;k_is)
  (case a19=>show _=_;k_is)
  (case l19=>show _=_;k_is)
  (case c19=>show _=_;k_is)
  (case k19=>show _=_;k_is)
  (case a20=>show _=_;k_is)
  (case l20=>show _=_;k_is)
  (case c20=>show _=_;k_is)
  (case k20=>show _=_;k_is)
  (case a21=>show _=_;k_is)
  (case l21=>show _=_;k_is)
  (case c21=>show _=_;k_is)
  (case k21=>show _=_;k_is)
  (case a22=>show _=_;k_is)
  (case l22=>show _=_;k_is)
  (case c22=>show _=_;k_is)
  (case k22=>show _=_;k_is)
  (case a23=>show _=_;k_is)
  (case l23=>show _=_;k_is)
  (case c23=>show _=_;k_is)
  (case k23=>show _=_;k_is)
  (case a24=>show _=_;k_is)
  (case l24=>show _=_;k_is)
  (case c24=>show _=_;k_is)
  (case k24=>show _=_;k_is)
  (case a25=>show _=_;k_is)
  (case l25=>show _=_;k_is)
  (case c25=>show _=_;k_is)
  (case k25=>show _=_;k_is)
  (case a26=>show _=_;k_is)
  (case l26=>show _=_;k_is)
  (case c26=>show _=_;k_is)
  (case k26=>show _=_;k_is)
  (case a27=>show _=_;k_is)
  (case l27=>show _=_;k_is)
  (case c27=>show _=_;k_is)
  (case k27=>show _=_;k_is)
  (case a28=>show _=_;k_is)
  (case l28=>show _=_;k_is)
  (case c28=>show _=_;k_is)
  (case k28=>show _=_;k_is)
  (case a29=>show _=_;k_is)
  (case l29=>show _=_;k_is)
  (case c29=>show _=_;k_is)
  (case k29=>show _=_;k_is)
  (case a30=>show _=_;k_is)
  (case l30=>show _=_;k_is)
  (case c30=>show _=_;k_is)
  (case k30=>show _=_;k_is)
  (case a31=>show _=_;k_is)
  (case l31=>show _=_;k_is)
  (case c31=>show _=_;k_is)
  (case k31=>show _=_;k_is)
  (case a32=>show _=_;k_is)
  (case l32=>show _=_;k_is)
  (case c32=>show _=_;k_is)
  (case k32=>show _=_;k_is)
  (case a33=>show _=_;k_is)
  (case l33=>show _=_;k_is)
  (case c33=>show _=_;k_is)
  (case k33=>show _=_;k_is)
  (case a34=>show _=_;k_is)
  (case l34=>show _=_;k_is)
  (case c34=>show _=_;k_is)
  (case k34=>show _=_;k_is)
  (case a35=>show _=_;k_is)
  (case l35=>show _=_;k_is)
  (case c35=>show _=_;k_is)
  (case k35=>show _=_;k_is)
  (case a36=>show _=_;k_is)
  (case l36=>show _=_;k_is)
  (case c36=>show _=_;k_is)
  (case k36=>show _=_;k_is)
  (case a37=>show _=_;k_is)
  (case l37=>show _=_;k_is)
  (case c37=>show _=_;k_is)
  (case k37=>show _=_;k_is)
  (case a38=>show _=_;k_is)
  (case l38=>show _=_;k_is)
  (case c38=>show _=_;k_is)
  (case k38=>show _=_;k_is)
  (case a39=>show _=_;k_is)
  (case l39=>show _=_;k_is)
  (case c39=>show _=_;k_is)
  (case k39=>show _=_;k_is)
  (case a40=>show _=_;k_is)
  (case l40=>show _=_;k_is)
  (case c40=>show _=_;k_is)
  (case k40=>show _=_;k_is)
  (case a41=>show _=_;k_is)
  (case l41=>show _=_;k_is)
  (case c41=>show _=_;k_is)
  (case k41=>show _=_;k_is)
  (case a42=>show _=_;k_is)
  (case l42=>show _=_;k_is)
  (case c42=>show _=_;k_is)
  (case k42=>show _=_;k_is)
  (case g_EIGHT_EDGES=>k_is)
  (case hq0=>k_is)
  (case hq1=>k_is)
  (case hq4=>k_is)
  (case hq7=>k_is)
  (case hq10=>k_is)
  (case hq13=>k_is)
  (case hq16=>k_is)
  (case hq19=>k_is)
  (case hq22=>k_is)
  (case g_FOUR_EDGES=>k_is)
  (case hq25=>k_is)
  (case hq26=>k_is)
  (case hq29=>k_is)
  (case hq32=>k_is)
  (case hq35=>k_is)
  (case g_STILL=>k_is)
  (case hq38=>k_is)
  (case z_all=>k_is)
  (case z_bool=>k_is)
  (case z_dict=>k_is)
  (case z_enumerate=>k_is)
  (case z_int=>k_is)
  (case z_isinstance=>k_is)
  (case z_len=>k_is)
  (case z_list=>k_is)
  (case z_range=>k_is)
  (case z_sorted=>k_is)
  (case z_sum=>k_is)
  (case z_tuple=>k_is)
  (case z_zip=>k_is)
