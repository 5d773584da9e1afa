import PyProof.Rows.All
import Wide.All
import OpenK.AllK
import Wide.FinOn
import PyProof.EqAt
import PyProof.EqKinds
import PyProof.TupleCall
import KE.KDictSum
import PyProof.SliceStr2
import PyProof.NeKinds
import PyProof.StrWalks
import PyProof.ConsumeWalk
import KE.KSortTup
import PyProof.Rows.SetFrom
import PyProof.Rows.SortStr
import PyProof.SumAny
import PyProof.EnumMake
import KE.KRevIter
import PyProof.MeetsStr
import PyProof.ListRange
import PyProof.Rows.Range3
import KE.KDictList
import PyProof.PureStr
import PyProof.WalkInts
import PyProof.ConsumeS
import PyProof.ZipIter
import PyProof.AttrMissHeap
import KE.KDictOf
import PyProof.DictItems
import KE.KItemsList
import KE.KEqDict
import PyProof.DictValues
import PyProof.DictWalks
import PySem.Challenge.RW_creasecourt_k37_all_rows
local macro_rules|`(tactic| omega) => `(tactic| lia)
set_option compiler.extract_closed false
set_option Elab.async false
set_option linter.all false
set_option maxRecDepth 100000
set_option linter.all false
namespace L2
open PySem PySem.Spec PyProof.Rows
noncomputable abbrev Key:=Sum Int Str
noncomputable def keyIs:Key->Value->Bool
 | .inl k,v=>Value.isInt k v
 | .inr x,v=>Value.isStrOf x v
noncomputable def keyH (w:World):Key->Int
 | .inl k=>hashInt k
 | .inr x=>hashStr w x
theorem keyIs_shape:∀ {k:Key}{v:Value},keyIs k v=true->(∃ i t,k=Sum.inl i/\v=Value.int i t)\/(∃ x t,k=Sum.inr x/\v=Value.str x t)
 | .inl i,v,h=>by
  obtain ⟨t,e⟩:=Value.isInt_shape (k:=i) (v:=v) h
  exact .inl ⟨i,t,rfl,e⟩
 | .inr x,v,h=>by
  obtain ⟨t,e⟩:=Value.isStrOf_shape (x:=x) (v:=v) h
  exact .inr ⟨x,t,rfl,e⟩
theorem key_ll (a b:Int):decide ((Sum.inl a:Key)=Sum.inl b)=(a == b):=by
 by_cases e:a=b
 ·subst e;simp
 ·have h:¬ (Sum.inl a:Key)=Sum.inl b:=fun q=>e (Sum.inl.inj q)
  rw [decide_eq_false h]
  exact (beq_eq_false_iff_ne.mpr e).symm
theorem key_rr (a b:Str):decide ((Sum.inr a:Key)=Sum.inr b)=decide (a=b):=by
 by_cases e:a=b
 ·subst e;simp
 ·have h:¬ (Sum.inr a:Key)=Sum.inr b:=fun q=>e (Sum.inr.inj q)
  rw [decide_eq_false h,decide_eq_false e]
theorem key_lr (a:Int)(b:Str):decide ((Sum.inl a:Key)=Sum.inr b)=false:=decide_eq_false (fun q=>nomatch q)
theorem key_rl (a:Str)(b:Int):decide ((Sum.inr a:Key)=Sum.inl b)=false:=decide_eq_false (fun q=>nomatch q)
noncomputable def mixKind (prog:Program)(w:World):PySem.KeyKind prog w Key where
 is:=keyIs
 hash:=keyH w
 inj:=fun v a b ha hb=>by
  rcases keyIs_shape ha with ⟨i,t,rfl,rfl⟩|⟨x,t,rfl,rfl⟩
  ·rcases keyIs_shape hb with ⟨j,u,rfl,e⟩|⟨y,u,rfl,e⟩
   ·injection e with e1 _;rw [e1]
   ·exact nomatch e
  ·rcases keyIs_shape hb with ⟨j,u,rfl,e⟩|⟨y,u,rfl,e⟩
   ·exact nomatch e
   ·injection e with e1 _;rw [e1]
 byValue:=fun k v h=>by
  rcases keyIs_shape h with ⟨i,t,rfl,rfl⟩|⟨x,t,rfl,rfl⟩<;>rfl
 pyHash:=fun hv h=>by
  rcases keyIs_shape hv with ⟨i,t,rfl,rfl⟩|⟨x,t,rfl,rfl⟩
  ·exact wpAny_pyHash_int h
  ·exact wpAny_pyHash_str h
 eqBool:=fun hu hv h=>by
  rcases keyIs_shape hu with ⟨i,t,rfl,rfl⟩|⟨x,t,rfl,rfl⟩
  ·rcases keyIs_shape hv with ⟨j,u,rfl,rfl⟩|⟨y,u,rfl,rfl⟩
   ·rw [key_ll] at h;exact wpAny_eqBool_int h
   ·rw [key_lr] at h;exact SeqAt.EqAt.int_str i t y u _ _ _ _ h
  ·rcases keyIs_shape hv with ⟨j,u,rfl,rfl⟩|⟨y,u,rfl,rfl⟩
   ·rw [key_rl] at h;exact SeqAt.EqAt.str_int x t j u _ _ _ _ h
   ·rw [key_rr] at h;exact wpAny_eqBool_str h
 «strs»:=fun k x t v h=>by
  rcases keyIs_shape h with ⟨i,u,rfl,e⟩|⟨y,u,rfl,e⟩
  ·exact nomatch e
  ·injection e with e1 _
   subst e1
   cases v<;>rfl
end L2
namespace L2
open PySem PySem.Spec PyProof.Rows
inductive V where
 | non|bl (b:Bool)|int (i:Int)|str (x:Str)|byt (b:Array UInt8)|flt (b:UInt64)|ref (a:Addr)|ty (n:String)
 deriving DecidableEq
noncomputable def RelV:V->Value->Prop
 | .non,u=>u=Value.none
 | .bl b,u=>u=Value.bool b
 | .int i,u=>∃ t,u=Value.int i t
 | .str x,u=>∃ t,u=Value.str x t
 | .byt b,u=>∃ t,u=Value.bytes b t
 | .flt b,u=>∃ t,u=Value.float b t
 | .ref a,u=>u=Value.ref a
 | .ty n,u=>u=Value.type n
noncomputable abbrev Vals:List V->List Value->Prop:=Paired RelV
theorem Vals.length {xs:List V}{us:List Value}(r:Vals xs us):xs.length=us.length:=Paired.length r
theorem Vals.get:∀ {xs:List V}{us:List Value}{i:Nat}{x:V},Vals xs us->xs[i]? = some x->∃ u,us[i]? = some u/\RelV x u
 | _,_,_,_,.nil,e=>by simp at e
 | _,_,0,_,.cons r _,e=>by simp at e;subst e;exact ⟨_,rfl,r⟩
 | _,_,i+1,x,.cons _ t,e=>by
  obtain ⟨u,h1,h2⟩:=Vals.get (i:=i) (x:=x) t (by simpa using e)
  exact ⟨u,by simpa using h1,h2⟩
theorem Vals.set {x:V}{u:Value}(r:RelV x u):∀ {xs:List V}{us:List Value}(i:Nat),Vals xs us->Vals (xs.set i x) (us.set i u)
 | _,_,_,.nil=>.nil
 | _,_,0,.cons _ t=>.cons r t
 | _,_,i+1,.cons q t=>.cons q (Vals.set r i t)
theorem Vals.append:∀ {xs ys:List V}{us ws:List Value},Vals xs us->Vals ys ws->Vals (xs++ys) (us++ws)
 | _,_,_,_,.nil,s=>s
 | _,_,_,_,.cons r t,s=>.cons r (Vals.append t s)
theorem Vals.take:∀ {xs:List V}{us:List Value}(n:Nat),Vals xs us->Vals (xs.take n) (us.take n)
 | _,_,0,_=>.nil
 | _,_,_+1,.nil=>.nil
 | _,_,n+1,.cons r t=>.cons r (Vals.take n t)
theorem Vals.drop:∀ {xs:List V}{us:List Value}(n:Nat),Vals xs us->Vals (xs.drop n) (us.drop n)
 | _,_,0,r=>r
 | _,_,_+1,.nil=>.nil
 | _,_,n+1,.cons _ t=>Vals.drop n t
noncomputable def RelO:Option V->Option Value->Prop
 | some v,some u=>RelV v u
 | none,none=>True
 | _,_=>False
noncomputable def KV {κ:Type}:List (κ×V)->List (κ×Value)->Prop:=Paired fun (p:κ×V)(q:κ×Value)=>p.1=q.1/\RelV p.2 q.2
noncomputable def kV:Key->V
 | .inl i=>.int i
 | .inr x=>.str x
inductive HO where
 | lst (xs:List V)
 | tup (xs:List V)
 | dK (kvs:List (Key×V))|dT (kvs:List (List Key×V))
 | set (S:Int->Bool)(n:Nat)
 | ins (C dx:Addr)(fs:List (Str×V))
 | own (x:Addr)
 | xd (fs:List (Str×V))
 | met (f x:Addr)
 | rng (lo hi:Int)
 | frz (o:Obj)(u:HO)
 | tbl (ps:Array Value)
 | ext (φ:Heap->Prop)
noncomputable abbrev Hp:=Addr->Option HO
noncomputable def upd (H:Hp)(a:Addr)(o:HO):Hp:=fun b=>if b=a then some o else H b
theorem upd_same {H:Hp}{a:Addr}{o:HO}:upd H a o a=some o:=by unfold upd;rw [if_pos rfl]
theorem upd_ne {H:Hp}{a b:Addr}{o:HO}(h:b≠a):upd H a o b=H b:=by unfold upd;rw [if_neg h]
theorem ne_of_none {H:Hp}{a b:Addr}{o:HO}(h:H a=some o)(h':H b=none):a≠b:=by
 intro e;subst e;rw [h] at h';cases h'
section
variable (P:Program)(w:World)
noncomputable def TupN (h:Heap)(a:Addr)(xs:Array Value):Prop:=∃ o,h.get? a=some o/\o.cls=.type "tuple"/\∃ n,o.data=.seq xs n/\o.dict=none
theorem TupN.tup {h:Heap}{a:Addr}{xs:Array Value}(x:TupN h a xs):IsTup h a xs:=let ⟨o,e,c,n,d,_⟩:=x;⟨o,e,c,n,d⟩
theorem TupN.new (h:Heap)(items:Array Value):TupN (h.push { cls:=.type "tuple",data:=.seq items }) h.objs.size items:=⟨_,Heap.get?_push_size _ rfl,rfl,_,rfl,rfl⟩
noncomputable def ObjOk (H:Hp)(h:Heap)(a:Addr):HO->Prop
 | .lst xs=>xs.length<=sizeLine/\∃ (its:List Value)(n:Nat),Vals xs its/\h.get? a=some { cls:=.type "list",data:=.seq its.toArray n }
 | .tup xs=>xs.length<=sizeLine/\∃ its:List Value,Vals xs its/\TupN h a its.toArray
 | .dK kvs=>kvs.length<=sizeLine/\(a == sysModules)=false/\∃ vs,KV kvs vs/\h.DictOf (mixKind P w) a vs
 | .dT kvs=>kvs.length<=sizeLine/\(a == sysModules)=false/\∃ xs:List (List Key×Addr×Value),
   Paired (fun (p:List Key×V)(q:List Key×Addr×Value)=>p.1=q.1/\H q.2.1=some (.tup (p.1.map kV))/\RelV p.2 q.2.2) kvs xs /\
   ∃ o es ep,h.get? a=some o/\o.ExactDict/\o.data=.dict es ep/\es.toList=xs.map (entryOfKey (tupleKind (mixKind P w)))/\(xs.map (·.1)).Nodup
 | .set S n=>h.SetOf (intKind P w) a S n
 | .ins C dx fs=>H dx=some (.own a)/\fs.length<=1000/\dx≠a/\h.get? a=some (PySem.W.instObj C dx) /\
   ∃ mA,h.Ns1 dx mA/\(∀ f,RelO (fs.lookup f) (mA f))/\PySem.Within mA (fs.map (·.1))
 | .own _=>∃ o,h.get? a=some o
 | .xd fs=>∃ mA,h.Ns1 a mA/\∀ f,RelO (fs.lookup f) (mA f)
 | .rng lo hi=>∃ t u v,h.get? a=some { cls:=.type "range",data:=.fields #[.int lo t,.int hi u,.int 1 v] }
 | .frz o u=>h.get? a=some o/\ObjOk H h a u
 | .tbl ps=>h.get? a=some { cls:=.none,data:=.fields ps }
 | .met f x=>h.get? a=some (PySem.W.methodObj (.ref f) (.ref x))
 | .ext φ=>φ h/\(∃ o,h.get? a=some o)/\∀ h1 h2:Heap,φ h1->(∀ o,h1.get? a=some o->h2.get? a=some o)->φ h2
noncomputable def HOk (H:Hp)(h:Heap):Prop:=∀ a o,H a=some o->ObjOk P w H h a o
end
section
variable {P:Program}{w:World}{H H':Hp}{h h':Heap}{a:Addr}{o:HO}
theorem ObjOk.lt (x:ObjOk P w H h a o):a<h.objs.size:=by
 cases o with
 | lst xs=>obtain ⟨_,_,_,_,e⟩:=x;exact Heap.lt_size e
 | tup xs=>obtain ⟨_,_,_,p⟩:=x;exact p.tup.lt
 | dK kvs=>obtain ⟨_,_,_,_,o,_,_,e,_⟩:=x;exact Heap.lt_size e
 | dT kvs=>obtain ⟨_,_,_,_,o,_,_,e,_⟩:=x;exact Heap.lt_size e
 | set S n=>obtain ⟨o,_,_,_,e,_⟩:=x;exact Heap.lt_size e
 | ins C dx fs=>obtain ⟨_,_,_,e,_⟩:=x;exact Heap.lt_size e
 | own y=>obtain ⟨_,e⟩:=x;exact Heap.lt_size e
 | xd fs=>obtain ⟨_,⟨_,_,_,e,_⟩,_⟩:=x;exact Heap.lt_size e
 | rng lo hi=>obtain ⟨_,_,_,e⟩:=x;exact Heap.lt_size e
 | frz ob u=>obtain ⟨e,_⟩:=x;exact Heap.lt_size e
 | tbl ps=>exact Heap.lt_size (show h.get? a=some _ from x)
 | met f y=>exact Heap.lt_size (show h.get? a=some _ from x)
 | ext φ=>obtain ⟨_,⟨_,e⟩,_⟩:=x;exact Heap.lt_size e
theorem Paired.mapP {α β:Type}{F G:α->β->Prop}:∀ {l₁:List α}{l₂:List β},Paired F l₁ l₂->(∀ a b,F a b->G a b)->Paired G l₁ l₂
 | _,_,.nil,_=>.nil
 | _,_,.cons r t,f=>.cons (f _ _ r) (Paired.mapP t f)
theorem ObjOk.stay (x:ObjOk P w H h a o)(k:∀ b u,(b=a\/H b=some (.own a))->h.get? b=some u->h'.get? b=some u)
  (ho:∀ b,H b=some (.own a)->H' b=some (.own a))(ht:∀ b xs,H b=some (.tup xs)->H' b=some (.tup xs)):ObjOk P w H' h' a o:=by
 induction o with
 | lst xs=>obtain ⟨z,its,n,r,e⟩:=x;exact ⟨z,its,n,r,k _ _ (.inl rfl) e⟩
 | tup xs=>obtain ⟨z,its,r,ob,e,c⟩:=x;exact ⟨z,its,r,ob,k _ _ (.inl rfl) e,c⟩
 | dK kvs=>obtain ⟨z,y,vs,r,ob,es,ep,e,c⟩:=x;exact ⟨z,y,vs,r,ob,es,ep,k _ _ (.inl rfl) e,c⟩
 | dT kvs=>
  obtain ⟨z,y,xs,r,ob,es,ep,e,c⟩:=x
  exact ⟨z,y,xs,Paired.mapP r fun p q z=>⟨z.1,ht _ _ z.2.1,z.2.2⟩,ob,es,ep,k _ _ (.inl rfl) e,c⟩
 | set S n=>obtain ⟨ob,es,ep,t,e,c⟩:=x;exact ⟨ob,es,ep,t,k _ _ (.inl rfl) e,c⟩
 | ins C dx fs=>
  obtain ⟨d,z,ne,e,mA,⟨od,es,ep,e2,c⟩,r⟩:=x
  exact ⟨ho _ d,z,ne,k _ _ (.inl rfl) e,mA,⟨od,es,ep,k _ _ (.inr d) e2,c⟩,r⟩
 | own y=>obtain ⟨ob,e⟩:=x;exact ⟨ob,k _ _ (.inl rfl) e⟩
 | xd fs=>obtain ⟨mA,⟨od,es,ep,e,c⟩,r⟩:=x;exact ⟨mA,⟨od,es,ep,k _ _ (.inl rfl) e,c⟩,r⟩
 | rng lo hi=>obtain ⟨t,u,v,e⟩:=x;exact ⟨t,u,v,k _ _ (.inl rfl) e⟩
 | frz ob u ih=>obtain ⟨e,q⟩:=x;exact ⟨k _ _ (.inl rfl) e,ih q⟩
 | tbl ps=>
  have e:h.get? a=some { cls:=.none,data:=.fields ps }:=x
  show h'.get? a=some { cls:=.none,data:=.fields ps }
  exact k a _ (.inl rfl) e
 | met f y=>
  have e:h.get? a=some (PySem.W.methodObj (.ref f) (.ref y)):=x
  show h'.get? a=some (PySem.W.methodObj (.ref f) (.ref y))
  exact k a _ (.inl rfl) e
 | ext φ=>obtain ⟨p,⟨o,e⟩,st⟩:=x;exact ⟨st _ _ p fun o q=>k _ _ (.inl rfl) q,⟨o,k _ _ (.inl rfl) e⟩,st⟩
theorem HOk.lt (x:HOk P w H h)(e:H a=some o):a<h.objs.size:=(x a o e).lt
theorem HOk.fresh (x:HOk P w H h)(e:h.objs.size<=a):H a=none:=by
 cases q:H a with
 | none=>rfl
 | some u=>exact absurd (Nat.lt_of_lt_of_le (x.lt q) e) (Nat.lt_irrefl _)
theorem HOk.kept (x:HOk P w H h)(k:∀ b u,h.get? b=some u->h'.get? b=some u):HOk P w H h':=fun a o e=>
 (x a o e).stay (fun b u _ q=>k b u q) (fun _ q=>q) fun _ _ q=>q
theorem HOk.laid (x:HOk P w H h)(k:∀ b u,h.get? b=some u->h'.get? b=some u)(hp:h.objs.size<=a)(new:ObjOk P w (upd H a o) h' a o):HOk P w (upd H a o) h':=fun b u e=>by
 have hn:=x.fresh hp
 by_cases hb:b=a
 ·subst hb;rw [upd_same] at e;cases e;exact new
 ·rw [upd_ne hb] at e
  exact (x b u e).stay (fun c v _ q=>k c v q) (fun c q=>by rw [upd_ne (ne_of_none q hn)];exact q) fun c xs q=>by rw [upd_ne (ne_of_none q hn)];exact q
end
noncomputable def Rd (H:Hp)(a:Addr)(u:HO):Prop:=H a=some u\/∃ o,H a=some (.frz o u)
theorem Rd.of {H:Hp}{a:Addr}{u:HO}(h:H a=some u):Rd H a u:=.inl h
theorem Rd.ok {P:Program}{w:World}{H:Hp}{h:Heap}{a:Addr}{u:HO}(r:Rd H a u)(x:HOk P w H h):ObjOk P w H h a u:=by
 rcases r with r|⟨o,r⟩
 ·exact x a u r
 ·obtain ⟨_,q⟩:=x a _ r
  exact q
noncomputable def Mut:Option HO->Prop
 | some (.lst _)=>True
 | some (.dK _)=>True
 | some (.dT _)=>True
 | some (.set _ _)=>True
 | some (.ins _ _ _)=>True
 | some (.ext _)=>True
 | _=>False
section
variable {P:Program}{w:World}{H:Hp}{h h':Heap}{x e:Addr}{o':HO}
theorem HOk.write (ok:HOk P w H h)(mu:Mut (H x))(he:e=x\/H e=some (.own x))(k:∀ b u,b≠e->h.get? b=some u->h'.get? b=some u)(heo:∃ u,h'.get? e=some u)
  (new:ObjOk P w (upd H x o') h' x o'):HOk P w (upd H x o') h':=fun b u q=>by
 have nown:∀ c y,H c=some (.own y)->c≠x:=fun c y r z=>by subst z;rw [r] at mu;exact mu
 have ntup:∀ c xs,H c=some (.tup xs)->c≠x:=fun c xs r z=>by subst z;rw [r] at mu;exact mu
 by_cases hb:b=x
 ·subst hb;rw [upd_same] at q;cases q;exact new
 ·rw [upd_ne hb] at q
  by_cases hbe:b=e
  ·have q':H b=some (.own x):=by
    rcases he with z|z
    ·exact absurd (hbe.trans z) hb
    ·rw [hbe];exact z
   rw [q] at q';cases q'
   obtain ⟨v,hv⟩:=heo
   exact ⟨v,by rw [hbe];exact hv⟩
  ·refine (ok b u q).stay (fun c v hc r=>k c v ?_ r) (fun c r=>by rw [upd_ne (nown c b r)];exact r) fun c xs r=>by rw [upd_ne (ntup c xs r)];exact r
   rcases hc with rfl|hc
   ·exact hbe
   ·rintro rfl
    rcases he with z|z
    ·exact nown c b hc z
    ·rw [hc] at z;cases z;exact hb rfl
end
structure Un (fs ex:List Addr)(H H':Hp)(h h':Heap):Prop where
 keep:∀ b o,h.get? b=some o->H b=none->b∉fs->b∉ex->h'.get? b=some o
 slot:∀ b o,h.get? b=some o->H b=none->b∈fs->b∉ex->∃ sl,h'.get? b=some { o with slots:=sl }
 free:∀ b o,h.get? b=some o->H b=none->b∉ex->H' b=none
 there:∀ b o,h.get? b=some o->b∉ex->∃ o',h'.get? b=some o'
 tups:∀ b xs,H b=some (.tup xs)->H' b=some (.tup xs)
 frzs:∀ b o u,H b=some (.frz o u)->H' b=some (.frz o u)
 tbls:∀ b ps,H b=some (.tbl ps)->∃ more,H' b=some (.tbl (ps++more))
section
variable {fs fs' ex ex':List Addr}{H H1 H2:Hp}{h h1 h2 h':Heap}{a x e:Addr}{o:HO}
theorem Un.any (u:Un fs ex H H1 h h1){b:Addr}{ob:Obj}(q:h.get? b=some ob)(n:H b=none)(hx:b∉ex):∃ sl,h1.get? b=some { ob with slots:=sl }:=by
 by_cases hb:b∈fs
 ·exact u.slot b ob q n hb hx
 ·exact ⟨ob.slots,u.keep b ob q n hb hx⟩
theorem Un.trans (a:Un fs ex H H1 h h1)(b:Un fs ex H1 H2 h1 h2):Un fs ex H H2 h h2 where
 keep:=fun c ob q n hc hx=>b.keep c ob (a.keep c ob q n hc hx) (a.free c ob q n hx) hc hx
 slot:=fun c ob q n hc hx=>by
  obtain ⟨sl,e1⟩:=a.slot c ob q n hc hx
  obtain ⟨sl',e2⟩:=b.slot c _ e1 (a.free c ob q n hx) hc hx
  exact ⟨sl',e2⟩
 free:=fun c ob q n hx=>by
  obtain ⟨o',e1⟩:=a.there c ob q hx
  exact b.free c o' e1 (a.free c ob q n hx) hx
 there:=fun c ob q hx=>by
  obtain ⟨o',e1⟩:=a.there c ob q hx
  exact b.there c o' e1 hx
 tups:=fun c xs q=>b.tups c xs (a.tups c xs q)
 frzs:=fun c ob xs q=>b.frzs c ob xs (a.frzs c ob xs q)
 tbls:=fun c ps q=>by
  obtain ⟨m1,e1⟩:=a.tbls c ps q
  obtain ⟨m2,e2⟩:=b.tbls c _ e1
  exact ⟨m1++m2,by rw [e2,Array.append_assoc]⟩
theorem Un.kept (k:∀ b u,h.get? b=some u->h'.get? b=some u):Un fs ex H H h h':=
 ⟨fun b ob q _ _ _=>k b ob q,fun b ob q _ _ _=>⟨ob.slots,k b ob q⟩,fun _ _ _ n _=>n,fun b ob q _=>⟨ob,k b ob q⟩,fun _ _ q=>q,fun _ _ _ q=>q,fun _ ps q=>⟨#[],by rw [q];simp⟩⟩
theorem Un.refl:Un fs ex H H h h:=Un.kept fun _ _ q=>q
theorem Un.laid (k:∀ b u,h.get? b=some u->h'.get? b=some u)(hp:h.objs.size<=a)(hn:H a=none):Un fs ex H (upd H a o) h h' where
 keep:=fun b u q _ _ _=>k b u q
 slot:=fun b u q _ _ _=>⟨u.slots,k b u q⟩
 free:=fun b u q n _=>by rw [upd_ne (Nat.ne_of_lt (Nat.lt_of_lt_of_le (Heap.lt_size q) hp))];exact n
 there:=fun b u q _=>⟨u,k b u q⟩
 tups:=fun b xs q=>by rw [upd_ne (ne_of_none q hn)];exact q
 frzs:=fun b u xs q=>by rw [upd_ne (ne_of_none q hn)];exact q
 tbls:=fun b ps q=>⟨#[],by rw [upd_ne (ne_of_none q hn),q];simp⟩
theorem Un.write (mu:Mut (H x))(he:e=x\/H e=some (.own x))(k:∀ b u,b≠e->h.get? b=some u->h'.get? b=some u)(heo:∃ u,h'.get? e=some u):Un fs ex H (upd H x o) h h':=by
 have hx:∀ b,H b=none->b≠x:=fun b n z=>by subst z;rw [n] at mu;exact mu
 have hb:∀ b,H b=none->b≠e:=fun b n z=>by
  subst z
  rcases he with r|r
  ·exact hx b n r
  ·rw [n] at r;cases r
 have hm:∀ b u,H b=some u->¬ Mut (some u)->b≠x:=fun b u q nm z=>by subst z;rw [q] at mu;exact nm mu
 refine ⟨fun b u q n _ _=>k b u (hb b n) q,fun b u q n _ _=>⟨u.slots,k b u (hb b n) q⟩,fun b u q n _=>by rw [upd_ne (hx b n)];exact n,fun b u q _=>?_,
  fun b xs q=>by rw [upd_ne (hm b _ q fun z=>z)];exact q,fun b u xs q=>by rw [upd_ne (hm b _ q fun z=>z)];exact q,fun b ps q=>⟨#[],by rw [upd_ne (hm b _ q fun z=>z),q];simp⟩⟩
 by_cases hbe:b=e
 ·subst hbe;exact heo
 ·exact ⟨u,k b u hbe q⟩
theorem Un.mono (u:Un fs ex H H1 h h1)(hs:∀ b∈fs,b∈fs')(hx:∀ b∈ex,b∈ex'):Un fs' ex' H H1 h h1:=
 ⟨fun b ob q n hb he=>u.keep b ob q n (fun z=>hb (hs b z)) fun z=>he (hx b z),fun _ _ q n _ he=>u.any q n fun z=>he (hx _ z),fun b ob q n he=>u.free b ob q n fun z=>he (hx b z),fun b ob q he=>u.there b ob q fun z=>he (hx b z),u.tups,u.frzs,u.tbls⟩
end
noncomputable def trk (h:Heap)(H:Hp):List Addr:=(List.range h.objs.size).filter fun a=>(H a).isSome
noncomputable def hidT (h:Heap)(H:Hp):Heap:=PySem.W.hideAll h (trk h H)
theorem hidT_size (h:Heap)(H:Hp):(hidT h H).objs.size=h.objs.size:=PySem.W.hideAll_size _ _
theorem hidT_get {h:Heap}{H:Hp}{b:Addr}{o:Obj}(e:h.get? b=some o)(n:H b=none):(hidT h H).get? b=some o:=
 PySem.W.hideAll_get _ e fun hm=>by
  have q:(H b).isSome=true:=(List.mem_filter.mp hm).2
  rw [n] at q;simp at q
theorem of_hidT {h:Heap}{H:Hp}{b:Addr}{o:Obj}(e:(hidT h H).get? b=some o):h.get? b=some o/\H b=none:=by
 have e':h.get? b=some o:=PySem.W.of_hideAll (trk h H) e
 refine ⟨e',?_⟩
 cases q:H b with
 | none=>rfl
 | some x=>
  have hm:b∈trk h H:=List.mem_filter.mpr ⟨List.mem_range.mpr (Heap.lt_size e'),by simp [q]⟩
  have z:(hidT h H).get? b=none:=PySem.W.hideAll_none (trk h H) hm
  rw [z] at e;cases e
noncomputable def allNews (g h:Heap)(L:Addr):List (Addr×Obj):=(List.range h.objs.size).filterMap fun a=>if a=L\/(g.get? a).isSome=true then none else (h.get? a).map fun o=>(a,o)
noncomputable def rest (g h:Heap)(L d:Addr):List (Addr×Obj):=(allNews g h L).filter fun p=>decide (p.1≠d)
end L2
namespace L2
open PySem PySem.Spec PyProof.Rows
structure Mod (K:PySem.W.Frag)(mg:Str->Option Value)(base:Heap):Prop where
 kin:K.In base
 glob:base.Ns mainGlobals mg
 blt:∃ mb,base.Ns builtinsNs mb/\∀ x:Str,x ≠ "__name__"->mb x=bootBuiltins x
 nolimit:base.NoLimit
structure Cx where
 prog:Program
 w:World
 K:PySem.W.Frag
 mg:Str->Option Value
 base:Heap
 A:Around
 N:List Str
 s₀:Shared
 H₀:Hp
 env:Env
 outer:List Env
 stack:List Env
 ex:List Addr
 fn:Str->Bool
 calm:Bool
 pn:List (Addr×Obj)
 xe:Value->Shared->Prop
noncomputable def frs (l:List Env):List Addr:=l.filterMap (·.frame)
noncomputable abbrev Cx.fs (X:Cx):List Addr:=frs X.outer
noncomputable def Vis (sc:Scope)(x:Str):Prop:=sc.names.lookup x=some .local\/sc.names.lookup x=some .cell\/sc.names.lookup x=some .free
noncomputable def Loc (sc:Scope)(x:Str):Prop:=sc.names.lookup x=some .local\/sc.names.lookup x=some .cell
noncomputable def Look (env:Env)(h:Heap)(m:Str->Option Value)(x:Str)(u:Value):Prop:=
 (env.kindOf x=some .local/\m x=some u)\/((env.kindOf x=some .cell\/env.kindOf x=some .free)/\∃ c,env.cells.lookup x=some c/\h.IsCell c (some u))
structure Cx.Ok (X:Cx):Prop where
 mod:Mod X.K X.mg X.base
 kind:X.env.scope.kind=.function
 glob:X.env.globals=mainGlobals
 blt:X.env.builtins=builtinsNs
 above:X.s₀.heap.objs.size<=X.env.locals
 inj:∀ x y c,X.env.cells.lookup x=some c->X.env.cells.lookup y=some c->x=y
 has:∀ x,(X.env.kindOf x=some .cell\/X.env.kindOf x=some .free)->∃ c,X.env.cells.lookup x=some c
 cab:∀ x c,X.fn x=true->X.env.cells.lookup x=some c->X.s₀.heap.objs.size<=c
 hd:X.calm=true->X.A.handled=none
 frames:X.A.frames=some X.stack
 stk:X.stack=X.outer\/(X.stack=X.env::X.outer/\X.env.frame=some X.env.locals)
 exf:∀ b∈X.ex,b≠X.env.locals/\∀ x c,X.env.cells.lookup x=some c->c≠b
 bs:∀ b o,X.base.get? b=some o->X.s₀.heap.get? b=some o/\X.H₀ b=none
 bsz:X.base.objs.size<=X.s₀.heap.objs.size
 noex:∀ b o,X.base.get? b=some o->b∉X.ex
 exfs:∀ b∈X.ex,b∉X.fs
 funs:X.s₀.heap.FunFrames X.base X.outer
 frf:∀ b∈X.fs,X.H₀ b=none
structure Inv (X:Cx)(pins:List (Addr×Obj))(σ:List (Option V))(H:Hp)(s:Shared):Prop where
 ok:X.Ok
 os:s.os=X.s₀.os
 bare:AllBare s.gens
 base:Un X.fs X.ex X.H₀ H X.s₀.heap s.heap
 loc:∃ m,s.heap.Ns X.env.locals m/\∀ (i:Nat)(x:Str)(v:V),X.N[i]? = some x->σ[i]? = some (some v)->Vis X.env.scope x->∃ u,RelV v u/\Look X.env s.heap m x u
 cell:∀ x c,X.env.cells.lookup x=some c->∃ v,s.heap.IsCell c v
 free:H X.env.locals=none
 freeC:∀ x c,X.env.cells.lookup x=some c->H c=none
 pin:∀ p∈X.pn++pins,s.heap.get? p.1=some p.2/\H p.1=none/\p.1≠X.env.locals/\p.1∉X.fs/\∀ v,p.2.data≠.cell v
 hok:HOk X.prog X.w H s.heap
 len:σ.length=X.N.length
section
variable {X:Cx}{pins:List (Addr×Obj)}{σ:List (Option V)}{H H':Hp}{s:Shared}{h':Heap}
theorem Cx.Ok.nofr (ok:X.Ok){b:Addr}{o:Obj}(e:X.base.get? b=some o):b∉X.fs:=fun hb=>by
 have:=(ok.funs.mem hb).1
 rw [e] at this;cases this
theorem Inv.bs (I:Inv X pins σ H s):∀ b o,X.base.get? b=some o->s.heap.get? b=some o/\H b=none:=fun b o e=>
 ⟨I.base.keep b o (I.ok.bs b o e).1 (I.ok.bs b o e).2 (I.ok.nofr e) (I.ok.noex b o e),I.base.free b o (I.ok.bs b o e).1 (I.ok.bs b o e).2 (I.ok.noex b o e)⟩
theorem Inv.bk (I:Inv X pins σ H s):∀ b o,X.base.get? b=some o->s.heap.get? b=some o:=fun b o e=>(I.bs b o e).1
theorem Inv.mod (I:Inv X pins σ H s):Mod X.K X.mg X.base:=I.ok.mod
theorem Inv.kIn (I:Inv X pins σ H s):X.K.In s.heap:=I.ok.mod.kin.keeps I.bk
theorem Inv.nolimit (I:Inv X pins σ H s):s.heap.NoLimit:=I.ok.mod.nolimit.keeps I.bk
theorem Inv.lt (I:Inv X pins σ H s):X.env.locals<s.heap.objs.size:=let ⟨_,hn,_⟩:=I.loc;hn.lt
theorem Inv.sz (I:Inv X pins σ H s):X.s₀.heap.objs.size<=s.heap.objs.size:=Nat.le_trans I.ok.above (Nat.le_of_lt I.lt)
theorem Inv.nofs (I:Inv X pins σ H s){a:Addr}(h:s.heap.objs.size<=a):a∉X.fs:=fun hb=>by
 obtain ⟨_,o,ho,_⟩:=I.ok.funs.mem hb
 exact absurd (Nat.lt_of_lt_of_le (Heap.lt_size ho) (Nat.le_trans I.sz h)) (Nat.lt_irrefl _)
theorem Inv.cne (I:Inv X pins σ H s):∀ x c,X.env.cells.lookup x=some c->c≠X.env.locals:=fun x c e z=>by
 obtain ⟨v,o,ho,hd⟩:=I.cell x c e
 obtain ⟨m,⟨o',es,ep,ho',hd',_⟩,_⟩:=I.loc
 rw [z,ho'] at ho;cases ho;rw [hd'] at hd;cases hd
theorem Inv.funs (I:Inv X pins σ H s):s.heap.FunFrames X.base X.outer:=by
 have all:∀ (l:List Env),(∀ b∈frs l,b∈X.fs)->X.s₀.heap.FunFrames X.base l->s.heap.FunFrames X.base l:=by
  intro l
  induction l with
  | nil=>intro _ _;trivial
  | cons env r ih=>
   intro hs hl
   obtain ⟨hk,⟨L,o,hf,hn,ho,hd⟩,hr⟩:=hl
   have hL:L∈X.fs:=hs L (by unfold frs;rw [List.filterMap_cons,hf];exact List.mem_cons_self)
   obtain ⟨sl,e⟩:=I.base.slot L o ho (I.ok.frf L hL) hL fun z=>I.ok.exfs L z hL
   exact ⟨hk,⟨L,_,hf,hn,e,hd⟩,ih (fun b hb=>hs b (by unfold frs;rw [List.filterMap_cons,hf];exact List.mem_cons_of_mem _ hb)) hr⟩
 exact all X.outer (fun _ hb=>hb) I.ok.funs
theorem Inv.stack (I:Inv X pins σ H s):s.heap.FunFrames X.base X.stack:=by
 rcases I.ok.stk with e|⟨e,hf⟩
 ·rw [e];exact I.funs
 ·rw [e]
  obtain ⟨m,hn,_⟩:=I.loc
  refine .cons (by rw [I.ok.kind];decide) hf hn ?_ I.funs
  exact Heap.get?_none_of_le (Nat.le_trans I.ok.bsz I.ok.above)
theorem Inv.stkSub (I:Inv X pins σ H s):∀ b∈frs X.stack,b∈X.env.locals::X.fs:=fun b hb=>by
 rcases I.ok.stk with e|⟨e,hf⟩
 ·rw [e] at hb;exact List.mem_cons_of_mem _ hb
 ·rw [e] at hb
  unfold frs at hb
  rw [List.filterMap_cons,hf] at hb
  exact hb
theorem Inv.stkFree (I:Inv X pins σ H s):∀ b∈frs X.stack,H b=none:=fun b hb=>by
 rcases List.mem_cons.mp (I.stkSub b hb) with e|hb
 ·rw [e];exact I.free
 ·obtain ⟨_,o,ho,_⟩:=I.ok.funs.mem hb
  exact I.base.free b o ho (I.ok.frf b hb) fun z=>I.ok.exfs b z hb
theorem Inv.step {g':Array GenState}{t':Nat}{d':Drawn}{ch:List Addr}(I:Inv X pins σ H s)
  (hch:∀ b∈ch,(b∈X.ex\/X.s₀.heap.objs.size<=b)/\b≠X.env.locals/\(∀ x c,X.env.cells.lookup x=some c->c≠b)/\∀ p∈X.pn++pins,p.1≠b)
  (keep:∀ b o,b≠X.env.locals->b∉X.fs->b∉ch->s.heap.get? b=some o->H b=none->h'.get? b=some o)
  (slot:∀ b o,b≠X.env.locals->b∈X.fs->b∉ch->s.heap.get? b=some o->H b=none->∃ sl,h'.get? b=some { o with slots:=sl })(free:∀ b o,b∉ch->s.heap.get? b=some o->H b=none->H' b=none)
  (there:∀ b o,b∉ch->s.heap.get? b=some o->∃ o',h'.get? b=some o')
  (tups:∀ b xs,H b=some (.tup xs)->H' b=some (.tup xs))(frzs:∀ b o u,H b=some (.frz o u)->H' b=some (.frz o u))(tbls:∀ b ps,H b=some (.tbl ps)->∃ more,H' b=some (.tbl (ps++more)))
  (ns:∀ m,s.heap.Ns X.env.locals m->h'.Ns X.env.locals m)(hok:HOk X.prog X.w H' h')(hg:AllBare g') :
  Inv X pins σ H' { s with heap:=h',gens:=g',drawn:=d',toks:=t' }:=by
 have neL:∀ b o,X.s₀.heap.get? b=some o->b≠X.env.locals:=fun b o e=>Nat.ne_of_lt (Nat.lt_of_lt_of_le (Heap.lt_size e) I.ok.above)
 have neC:∀ b o,X.s₀.heap.get? b=some o->b∉X.ex->b∉ch:=fun b o e hx hb=>by
  rcases (hch b hb).1 with z|z
  ·exact hx z
  ·exact absurd (Nat.lt_of_lt_of_le (Heap.lt_size e) z) (Nat.lt_irrefl _)
 have cellK:∀ x c,X.env.cells.lookup x=some c->∀ v,s.heap.IsCell c v->h'.IsCell c v:=fun x c e v ⟨o,ho,hd⟩=>by
  have nch:c∉ch:=fun z=>(hch c z).2.2.1 x c e rfl
  by_cases hc:c∈X.fs
  ·obtain ⟨sl,q⟩:=slot c o (I.cne x c e) hc nch ho (I.freeC x c e)
   exact ⟨_,q,hd⟩
  ·exact ⟨o,keep c o (I.cne x c e) hc nch ho (I.freeC x c e),hd⟩
 refine ⟨I.ok,I.os,hg,⟨fun b o e n hb hx=>?_,fun b o e n hb hx=>?_,fun b o e n hx=>?_,fun b o e hx=>?_,fun b xs e=>tups b xs (I.base.tups b xs e),fun b o xs e=>frzs b o xs (I.base.frzs b o xs e),fun b ps e=>?_⟩,?_,fun x c e=>?_,?_,fun x c e=>?_,fun p hp=>?_,hok,I.len⟩
 ·exact keep b o (neL b o e) hb (neC b o e hx) (I.base.keep b o e n hb hx) (I.base.free b o e n hx)
 ·obtain ⟨sl,e1⟩:=I.base.slot b o e n hb hx
  obtain ⟨sl',e2⟩:=slot b _ (neL b o e) hb (neC b o e hx) e1 (I.base.free b o e n hx)
  exact ⟨sl',e2⟩
 ·obtain ⟨o',e1⟩:=I.base.there b o e hx
  exact free b o' (neC b o e hx) e1 (I.base.free b o e n hx)
 ·obtain ⟨o',e1⟩:=I.base.there b o e hx
  exact there b o' (neC b o e hx) e1
 ·obtain ⟨m1,e1⟩:=I.base.tbls b ps e
  obtain ⟨m2,e2⟩:=tbls b _ e1
  exact ⟨m1++m2,by rw [e2,Array.append_assoc]⟩
 ·obtain ⟨m,hn,hl⟩:=I.loc
  refine ⟨m,ns m hn,fun i x v e1 e2 e3=>?_⟩
  obtain ⟨u,r,l⟩:=hl i x v e1 e2 e3
  refine ⟨u,r,?_⟩
  rcases l with l|⟨k,c,e,z⟩
  ·exact .inl l
  ·exact .inr ⟨k,c,e,cellK x c e _ z⟩
 ·obtain ⟨v,z⟩:=I.cell x c e
  exact ⟨v,cellK x c e v z⟩
 ·obtain ⟨m,⟨o,_,_,ho,_⟩,_⟩:=I.loc
  exact free _ o (fun z=>(hch _ z).2.1 rfl) ho I.free
 ·obtain ⟨v,o,ho,hd⟩:=I.cell x c e
  exact free c o (fun z=>(hch c z).2.2.1 x c e rfl) ho (I.freeC x c e)
 ·obtain ⟨e,n,ne,nf,d⟩:=I.pin p hp
  have nch:p.1∉ch:=fun z=>(hch p.1 z).2.2.2 p hp rfl
  exact ⟨keep p.1 p.2 ne nf nch e n,free p.1 p.2 nch e n,ne,nf,d⟩
theorem Inv.un {t':Nat}(I:Inv X pins σ H s)(u:Un X.fs [] H H' s.heap h')(hok:HOk X.prog X.w H' h'):Inv X pins σ H' { s with heap:=h',toks:=t' }:=by
 obtain ⟨m,⟨o,es,ep,ho,r⟩,_⟩:=id I.loc
 obtain ⟨sl,hL⟩:=u.any ho I.free (by simp)
 exact I.step (g':=s.gens) (d':=s.drawn) (ch:=[]) (fun _ z=>nomatch z) (fun b o _ hb _ e n=>u.keep b o e n hb (by simp)) (fun b o _ hb _ e n=>u.slot b o e n hb (by simp)) (fun b o _ e n=>u.free b o e n (by simp)) (fun b o _ e=>u.there b o e (by simp)) u.tups u.frzs u.tbls (fun m' hm=>by
  obtain ⟨o',es',ep',ho',r'⟩:=hm
  rw [ho] at ho';cases ho'
  exact ⟨_,es',ep',hL,r'⟩) hok I.bare
theorem Inv.call {g':Array GenState}{t':Nat}{d':Drawn}{ch:List Addr}(I:Inv X pins σ H s)(u:Un (frs X.stack) ch H H' s.heap h')(hok:HOk X.prog X.w H' h')(hg:AllBare g')
  (hch:∀ b∈ch,(b∈X.ex\/X.s₀.heap.objs.size<=b)/\b≠X.env.locals/\(∀ x c,X.env.cells.lookup x=some c->c≠b)/\∀ p∈X.pn++pins,p.1≠b) :
  Inv X pins σ H' { s with heap:=h',gens:=g',drawn:=d',toks:=t' }:=by
 obtain ⟨m,⟨o,es,ep,ho,r⟩,_⟩:=id I.loc
 obtain ⟨sl,hL⟩:=u.any ho I.free fun z=>(hch _ z).2.1 rfl
 exact I.step (ch:=ch) hch (fun b o hL hb hc e n=>u.keep b o e n (fun z=>(List.mem_cons.mp (I.stkSub b z)).elim hL hb) hc) (fun b o _ _ hc e n=>u.any e n hc) (fun b o hc e n=>u.free b o e n hc) (fun b o hc e=>u.there b o e hc) u.tups u.frzs u.tbls (fun m' hm=>by
  obtain ⟨o',es',ep',ho',r'⟩:=hm
  rw [ho] at ho';cases ho'
  exact ⟨_,es',ep',hL,r'⟩) hok hg
theorem Inv.turned {t':Nat}{it:Addr}(I:Inv X pins σ H s)(k:∀ b o,b≠it->s.heap.get? b=some o->h'.get? b=some o)(hn:H it=none)(hL:it≠X.env.locals)
  (h1:it∈X.ex\/X.s₀.heap.objs.size<=it)(h2:∀ x c,X.env.cells.lookup x=some c->c≠it)(h3:∀ p∈X.pn++pins,p.1≠it):Inv X pins σ H { s with heap:=h',toks:=t' }:=by
 have nit:∀ b u,H b=some u->b≠it:=fun b u e z=>by rw [z,hn] at e;cases e
 refine I.step (g':=s.gens) (d':=s.drawn) (ch:=[it]) (fun b hb=>?_) (fun b o _ _ hc e _=>k b o (fun z=>hc (by simp [z])) e) (fun b o _ _ hc e _=>⟨o.slots,k b o (fun z=>hc (by simp [z])) e⟩) (fun _ _ _ _ n=>n)
  (fun b o hc e=>⟨o,k b o (fun z=>hc (by simp [z])) e⟩) (fun _ _ e=>e) (fun _ _ _ e=>e) (fun b ps e=>⟨#[],by rw [e];simp⟩) (fun m hm=>?_) (fun b u e=>?_) I.bare
 ·have e:b=it:=by simpa using hb
  subst e
  exact ⟨h1,hL,h2,h3⟩
 ·obtain ⟨o,es,ep,ho,r⟩:=hm
  exact ⟨o,es,ep,k _ o (Ne.symm hL) ho,r⟩
 ·refine (I.hok b u e).stay (fun c v hc q=>k c v ?_ q) (fun _ q=>q) fun _ _ q=>q
  rcases hc with z|z
  ·rw [z];exact nit b u e
  ·exact nit c _ z
theorem Inv.tok (I:Inv X pins σ H s)(t:Nat):Inv X pins σ H { s with toks:=t }:=I.un (h':=s.heap) (t':=t) Un.refl I.hok
theorem Inv.kept {t':Nat}(I:Inv X pins σ H s)(k:∀ b u,s.heap.get? b=some u->h'.get? b=some u):Inv X pins σ H { s with heap:=h',toks:=t' }:=I.un (Un.kept k) (I.hok.kept k)
theorem Inv.laid {a:Addr}{o:HO}{t':Nat}(I:Inv X pins σ H s)(k:∀ b u,s.heap.get? b=some u->h'.get? b=some u)(hp:s.heap.objs.size<=a)(new:ObjOk X.prog X.w (upd H a o) h' a o) :
  Inv X pins σ (upd H a o) { s with heap:=h',toks:=t' }:=I.un (Un.laid k hp (I.hok.fresh hp)) (I.hok.laid k hp new)
theorem Inv.write {x e:Addr}{o:HO}{t':Nat}(I:Inv X pins σ H s)(mu:Mut (H x))(he:e=x\/H e=some (.own x))(k:∀ b u,b≠e->s.heap.get? b=some u->h'.get? b=some u)(heo:∃ u,h'.get? e=some u)
  (new:ObjOk X.prog X.w (upd H x o) h' x o):Inv X pins σ (upd H x o) { s with heap:=h',toks:=t' }:=I.un (Un.write mu he k heo) (I.hok.write mu he k heo new)
theorem Inv.pins_of {pins':List (Addr×Obj)}(I:Inv X pins σ H s)(h:∀ p∈pins',s.heap.get? p.1=some p.2/\H p.1=none/\p.1≠X.env.locals/\p.1∉X.fs/\∀ v,p.2.data≠.cell v):Inv X pins' σ H s:=
 ⟨I.ok,I.os,I.bare,I.base,I.loc,I.cell,I.free,I.freeC,fun p hp=>(List.mem_append.mp hp).elim (fun z=>I.pin p (List.mem_append_left _ z)) (h p),I.hok,I.len⟩
theorem nodup_ix {N:List Str}(hN:N.Nodup){i j:Nat}{x:Str}(a:N[i]? = some x)(b:N[j]? = some x):i=j:=by
 obtain ⟨h1,e1⟩:=List.getElem?_eq_some_iff.mp a
 obtain ⟨h2,e2⟩:=List.getElem?_eq_some_iff.mp b
 exact (List.getElem_inj hN).mp (e1.trans e2.symm)
theorem store_ok2 {M:Model}{A:Around}{E:Value->Shared->Prop}{i:Nat}{x:Str}{v:V}{u:Value}{Q:Unit->Shared->Prop}(I:Inv X pins σ H s)(hN:X.N.Nodup)(hi:X.N[i]? = some x)(hx:Loc X.env.scope x)(r:RelV v u)
  (h:∀ s',Inv X pins (σ.set i (some v)) H s'->(∃ a,Heap.SameBut a s.heap s'.heap/\(a=X.env.locals\/X.env.cells.lookup x=some a))->Q () s')(hf:X.fn x=true\/X.env.scope.names.lookup x=some .local:=by first|exact .inl rfl|exact .inr rfl|assumption):wpAny M A (storeName X.env x u) Q E s:=by
 obtain ⟨m,hn,hl⟩:=id I.loc
 have hcls:(X.env.scope.kind == .class||(X.env.scope.kind == .module&&X.env.locals != X.env.globals))=false:=by rw [I.ok.kind];rfl
 have hiσ:i<σ.length:=by rw [I.len];exact (List.getElem?_eq_some_iff.mp hi).1
 have cne:=I.cne
 have tracked:∀ {a:Addr}{h':Heap},(∃ o,s.heap.get? a=some o/\H a=none)->Heap.SameBut a s.heap h'->HOk X.prog X.w H h':=fun {a h'} ha hs b ob e=>by
  obtain ⟨_,_,hfree⟩:=ha
  refine (I.hok b ob e).stay (fun c w' hc q=>(hs.2 c ?_).trans q) (fun _ q=>q) fun _ _ q=>q
  rintro rfl
  rcases hc with rfl|hc
  ·rw [hfree] at e;cases e
  ·rw [hfree] at hc;cases hc
 rcases hx with hk|hk
 ·refine wpAny_storeName_local hk hn (fun h' hn' hs=>?_) hcls
  obtain ⟨oL,_,_,hoL,_⟩:=id hn
  refine h _ ⟨I.ok,I.os,I.bare,⟨fun b o e n hb hx=>?_,fun b o e n hb hx=>?_,I.base.free,fun b o e hx=>?_,I.base.tups,I.base.frzs,I.base.tbls⟩,⟨_,hn',fun j y v' e1 e2 e3=>?_⟩,fun y c e=>?_,I.free,I.freeC,fun p hp=>?_,tracked ⟨oL,hoL,I.free⟩ hs,by simpa using I.len⟩ ⟨_,hs,.inl rfl⟩
  ·exact (hs.2 b (Nat.ne_of_lt (Nat.lt_of_lt_of_le (Heap.lt_size e) I.ok.above))).trans (I.base.keep b o e n hb hx)
  ·obtain ⟨sl,e1⟩:=I.base.slot b o e n hb hx
   exact ⟨sl,(hs.2 b (Nat.ne_of_lt (Nat.lt_of_lt_of_le (Heap.lt_size e) I.ok.above))).trans e1⟩
  ·obtain ⟨o',e1⟩:=I.base.there b o e hx
   exact ⟨o',(hs.2 b (Nat.ne_of_lt (Nat.lt_of_lt_of_le (Heap.lt_size e) I.ok.above))).trans e1⟩
  ·by_cases hj:j=i
   ·subst hj
    rw [hi] at e1;cases e1
    rw [List.getElem?_set_self hiσ] at e2
    cases e2
    exact ⟨u,r,.inl ⟨hk,by simp⟩⟩
   ·rw [List.getElem?_set_ne (Ne.symm hj)] at e2
    obtain ⟨u',r',q⟩:=hl j y v' e1 e2 e3
    refine ⟨u',r',?_⟩
    rcases q with ⟨k,e⟩|⟨k,c,e,z⟩
    ·refine .inl ⟨k,?_⟩
     have:y≠x:=fun e=>hj (nodup_ix hN e1 (e ▸ hi))
     simp [this,e]
    ·exact .inr ⟨k,c,e,z.sameBut hs (cne y c e)⟩
  ·obtain ⟨w',z⟩:=I.cell y c e
   exact ⟨w',z.sameBut hs (cne y c e)⟩
  ·obtain ⟨e,n,ne,nf,d⟩:=I.pin p hp
   exact ⟨(hs.2 p.1 ne).trans e,n,ne,nf,d⟩
 ·have hfn:X.fn x=true:=by
   rcases hf with z|z
   ·exact z
   ·rw [z] at hk;cases hk
  obtain ⟨c,hc⟩:=I.ok.has x (.inl hk)
  obtain ⟨w',z⟩:=I.cell x c hc
  refine wpAny_storeName_cell I.ok.kind hk hc z (fun h' hc' hs=>?_)
  obtain ⟨oc,hoc,hocd⟩:=id z
  refine h { s with heap:=h' } ⟨I.ok,I.os,I.bare,⟨fun b o e n hb hx=>?_,fun b o e n hb hx=>?_,I.base.free,fun b o e hx=>?_,I.base.tups,I.base.frzs,I.base.tbls⟩,⟨m,hn.sameBut hs (Ne.symm (cne x c hc)),fun j y v' e1 e2 e3=>?_⟩,fun y c' e=>?_,I.free,I.freeC,fun p hp=>?_,tracked ⟨oc,hoc,I.freeC x c hc⟩ hs,by simpa using I.len⟩ ⟨c,hs,.inr hc⟩
  ·exact (hs.2 b (Nat.ne_of_lt (Nat.lt_of_lt_of_le (Heap.lt_size e) (I.ok.cab x c hfn hc)))).trans (I.base.keep b o e n hb hx)
  ·obtain ⟨sl,e1⟩:=I.base.slot b o e n hb hx
   exact ⟨sl,(hs.2 b (Nat.ne_of_lt (Nat.lt_of_lt_of_le (Heap.lt_size e) (I.ok.cab x c hfn hc)))).trans e1⟩
  ·obtain ⟨o',e1⟩:=I.base.there b o e hx
   exact ⟨o',(hs.2 b (Nat.ne_of_lt (Nat.lt_of_lt_of_le (Heap.lt_size e) (I.ok.cab x c hfn hc)))).trans e1⟩
  ·by_cases hj:j=i
   ·subst hj
    rw [hi] at e1;cases e1
    rw [List.getElem?_set_self hiσ] at e2
    cases e2
    exact ⟨u,r,.inr ⟨.inl hk,c,hc,hc'⟩⟩
   ·rw [List.getElem?_set_ne (Ne.symm hj)] at e2
    obtain ⟨u',r',q⟩:=hl j y v' e1 e2 e3
    refine ⟨u',r',?_⟩
    rcases q with q|⟨k,c',e,z'⟩
    ·exact .inl q
    ·refine .inr ⟨k,c',e,z'.sameBut hs ?_⟩
     rintro rfl
     exact hj (nodup_ix hN e1 (I.ok.inj _ _ _ e hc ▸ hi))
  ·by_cases hcc:c'=c
   ·subst hcc;exact ⟨_,hc'⟩
   ·obtain ⟨w2,z2⟩:=I.cell y c' e
    exact ⟨w2,z2.sameBut hs hcc⟩
  ·obtain ⟨e,n,ne,nf,d⟩:=I.pin p hp
   refine ⟨(hs.2 p.1 ?_).trans e,n,ne,nf,d⟩
   intro q
   rw [q,hoc] at e
   have q':oc=p.2:=Option.some.inj e
   exact d w' (by rw [<- q'];exact hocd)
theorem store_ok {M:Model}{A:Around}{E:Value->Shared->Prop}{i:Nat}{x:Str}{v:V}{u:Value}{Q:Unit->Shared->Prop}(I:Inv X pins σ H s)(hN:X.N.Nodup)(hi:X.N[i]? = some x)(hx:Loc X.env.scope x)(r:RelV v u)
  (h:∀ s',Inv X pins (σ.set i (some v)) H s'->Q () s')(hf:X.fn x=true\/X.env.scope.names.lookup x=some .local:=by first|exact .inl rfl|exact .inr rfl|assumption):wpAny M A (storeName X.env x u) Q E s:=
 store_ok2 I hN hi hx r (fun s' I' _=>h s' I') hf
end
noncomputable abbrev XK:=Value->Option Addr->Hp->Prop
noncomputable abbrev St:=List (Option V)
noncomputable abbrev VK:=V->Hp->Prop
noncomputable abbrev TE:=St->Hp->VK->Prop
noncomputable abbrev TT:=St->Hp->(Bool->Hp->Prop)->Prop
noncomputable abbrev TA:=St->Hp->(List V->Hp->Prop)->Prop
structure Ends where
 nx:St->Hp->Prop
 rt:VK
 bk:St->Hp->Prop:=fun _ _=>False
 ct:St->Hp->Prop:=fun _ _=>False
noncomputable abbrev TS:=Ends->St->Hp->Prop
noncomputable def EP (X:Cx)(pins:List (Addr×Obj))(σ:St)(Q:VK)(u:Value)(s':Shared):Prop:=∃ v H',Inv X pins σ H' s'/\RelV v u/\Q v H'
noncomputable def TP (X:Cx)(pins:List (Addr×Obj))(σ:St)(Q:Bool->Hp->Prop)(b:Bool)(s':Shared):Prop:=∃ H',Inv X pins σ H' s'/\Q b H'
noncomputable def AP (X:Cx)(pins:List (Addr×Obj))(σ:St)(Q:List V->Hp->Prop)(us:List Value)(s':Shared):Prop:=∃ vs H',Inv X pins σ H' s'/\Vals vs us/\Q vs H'
noncomputable def SP (X:Cx)(pins:List (Addr×Obj))(D:Ends)(f:Flow)(s':Shared):Prop:=
 match f with
 | .next=>∃ σ' H',Inv X pins σ' H' s'/\D.nx σ' H'
 | .brk=>∃ σ' H',Inv X pins σ' H' s'/\D.bk σ' H'
 | .cont=>∃ σ' H',Inv X pins σ' H' s'/\D.ct σ' H'
 | .ret u=>∃ v σ' H',Inv X pins σ' H' s'/\RelV v u/\D.rt v H'
noncomputable def PE (X:Cx)(e:Expr)(t:TE):Prop:=
 ∀ (pins:List (Addr×Obj))(s:Shared)(σ:St)(H:Hp)(Q:VK),Inv X pins σ H s->t σ H Q->wpAny (model X.prog X.w) X.A (eval e X.env) (EP X pins σ Q) X.xe s
noncomputable def PT (X:Cx)(e:Expr)(t:TT):Prop:=
 ∀ (pins:List (Addr×Obj))(s:Shared)(σ:St)(H:Hp)(Q:Bool->Hp->Prop),Inv X pins σ H s->t σ H Q->wpAny (model X.prog X.w) X.A (isTrue e X.env (eval e X.env)) (TP X pins σ Q) X.xe s
noncomputable def PW (X:Cx)(e:Expr)(t:TT):Prop:=
 ∀ (whole:Sem Value)(pins:List (Addr×Obj))(s:Shared)(σ:St)(H:Hp)(Q:Bool->Hp->Prop),Inv X pins σ H s->t σ H Q->wpAny (model X.prog X.w) X.A (isTrue e X.env whole) (TP X pins σ Q) X.xe s
theorem PW.pt {X:Cx}{e:Expr}{t:TT}(h:PW X e t):PT X e t:=h _
noncomputable def PA (X:Cx)(es:List Expr)(t:TA):Prop:=
 ∀ (pos:Pos)(pins:List (Addr×Obj))(s:Shared)(σ:St)(H:Hp)(Q:List V->Hp->Prop),Inv X pins σ H s->t σ H Q->wpAny (model X.prog X.w) X.A (spliced (backTo pos (starEach es X.env))) (AP X pins σ Q) X.xe s
noncomputable def PS (X:Cx)(st:Stmt)(t:TS):Prop:=
 ∀ (pins:List (Addr×Obj))(s:Shared)(σ:St)(H:Hp)(D:Ends),Inv X pins σ H s->t D σ H->wpAny (model X.prog X.w) X.A (exec st X.env) (SP X pins D) X.xe s
noncomputable def PSs (X:Cx)(st:List Stmt)(t:TS):Prop:=
 ∀ (pins:List (Addr×Obj))(s:Shared)(σ:St)(H:Hp)(D:Ends),Inv X pins σ H s->t D σ H->wpAny (model X.prog X.w) X.A (execs st X.env) (SP X pins D) X.xe s
theorem thn {α:Type}{t:Sem α}{Q Q':α->Shared->Prop}{M:Model}{A:Around}{E:Value->Shared->Prop}{s:Shared}(h:wpAny M A t Q E s)(hQ:∀ a s,Q a s->Q' a s):wpAny M A t Q' E s:=wpAny_mono h hQ fun _ _ x=>x
end L2
namespace L2
open PySem PySem.Spec PyProof.Rows
section
variable {X:Cx}
noncomputable def tVar (i:Nat):TE:=fun σ H Q=>∃ v,σ[i]? = some (some v)/\Q v H
noncomputable def tC (v:V):TE:=fun _ H Q=>Q v H
theorem pe_var {i:Nat}{x:Str}{pos:Pos}(hN:X.N[i]? = some x)(hv:Vis X.env.scope x)(hd:(x == ("__debug__":Str))=false:=by decide) (hcd:(x == ("__classdict__":Str))=false:=by decide):PE X (.Name x pos) (tVar i):=by
 intro pins s σ H Q I h
 obtain ⟨v,e,h⟩:=h
 obtain ⟨m,hn,hl⟩:=I.loc
 obtain ⟨u,r,l⟩:=hl i x v hN e hv
 have fin:EP X pins σ Q u s:=⟨v,H,I,r,h⟩
 rcases l with ⟨hk,hm⟩|⟨hk,c,hc,hcell⟩
 ·exact wpAny_Name (wpAny_loadName_local I.ok.kind hk hn hm fin) hd
 ·rcases hk with hk|hk
  ·exact wpAny_Name (wpAny_loadName_cell I.ok.kind hk hc hcell fin) hd
  ·exact wpAny_Name (wpAny_loadName_free I.ok.kind hk hc hcell fin hcd) hd
theorem pe_int {i j pos}:PE X (.Constant (.int i) j pos) (tC (.int i)):=fun _ _ _ H _ I h=>wpAny_Constant_int ⟨.int i,H,I.tok _,⟨_,rfl⟩,h⟩
theorem pe_bl {b j pos}:PE X (.Constant (.bool b) j pos) (tC (.bl b)):=fun _ _ _ H _ I h=>Constant_bool ⟨.bl b,H,I,rfl,h⟩
theorem pe_non {j pos}:PE X (.Constant .none j pos) (tC .non):=fun _ _ _ H _ I h=>Constant_none ⟨.non,H,I,rfl,h⟩
theorem pe_str {x j pos}:PE X (.Constant (.str x) j pos) (tC (.str x)):=fun _ _ _ H _ I h=>Calls.Constant_str ⟨.str x,H,I.tok _,⟨_,rfl⟩,h⟩
noncomputable def Gl (X:Cx)(x:Str):Prop:=X.env.kindOf x=some .globalImplicit
theorem ld_glob {E:Value->Shared->Prop}{pins:List (Addr×Obj)}{s:Shared}{σ:St}{H:Hp}{x:Str}{u:Value}{pos:Pos}{Q:Value->Shared->Prop}(I:Inv X pins σ H s)(hg:Gl X x)(hm:X.mg x=some u)(h:Q u s)
  (hd:(x == ("__debug__":Str))=false:=by decide):wpAny (model X.prog X.w) X.A (eval (.Name x pos) X.env) Q E s:=
 Calls.Name_function_global I.ok.kind hg (Calls.loadGlobal_global (by rw [I.ok.glob];exact I.mod.glob.keeps I.bk) hm h) hd
theorem ld_blt {E:Value->Shared->Prop}{pins:List (Addr×Obj)}{s:Shared}{σ:St}{H:Hp}{x:Str}{u:Value}{pos:Pos}{Q:Value->Shared->Prop}(I:Inv X pins σ H s)(hg:Gl X x)(hm:X.mg x=none)(hv:bootBuiltins x=some u)(h:Q u s)
  (hn:x ≠ "__name__":=by decide) (hd:(x == ("__debug__":Str))=false:=by decide):wpAny (model X.prog X.w) X.A (eval (.Name x pos) X.env) Q E s:=by
 obtain ⟨mb,h1,h2⟩:=I.mod.blt
 exact Calls.Name_function_global I.ok.kind hg (Calls.loadGlobal_builtin (by rw [I.ok.glob];exact I.mod.glob.keeps I.bk) hm (by rw [I.ok.blt];exact h1.keeps I.bk) ((h2 x hn).trans hv) h) hd
theorem pe_glob {x:Str}{v:V}{u:Value}{pos:Pos}(hg:Gl X x)(hm:X.mg x=some u)(r:RelV v u)(hd:(x == ("__debug__":Str))=false:=by decide):PE X (.Name x pos) (tC v):=
 fun _ _ _ H _ I h=>ld_glob I hg hm ⟨v,H,I,r,h⟩ hd
theorem pe_bltn {x:Str}{v:V}{u:Value}{pos:Pos}(hg:Gl X x)(hm:X.mg x=none)(hv:bootBuiltins x=some u)(r:RelV v u)(hn:x ≠ "__name__":=by decide) (hd:(x == ("__debug__":Str))=false:=by decide):PE X (.Name x pos) (tC v):=
 fun _ _ _ H _ I h=>ld_blt I hg hm hv ⟨v,H,I,r,h⟩ hn hd
variable {a b:Expr}{ta tb:TE}{pos:Pos}
variable {tA tB':TT}{rest:List Expr}
noncomputable def tAnd (t u:TT):TT:=fun σ H Q=>t σ H fun c H1=>if c=true then u σ H1 Q else Q false H1
noncomputable def tOr (t u:TT):TT:=fun σ H Q=>t σ H fun c H1=>if c=true then Q true H1 else u σ H1 Q
noncomputable def tNot (t:TT):TT:=fun σ H Q=>t σ H fun c H1=>Q (!c) H1
theorem pw_and1 (ha:PT X a tA):PW X (.BoolOp .And [a] pos) tA:=by
 intro wh pins s σ H Q I h
 refine isTrue_and (thn (ha pins s σ H Q I h) fun c s1 e=>?_)
 cases c with
 | true=>exact isTrue_and_nil e
 | false=>exact e
theorem pw_or1 (ha:PT X a tA):PW X (.BoolOp .Or [a] pos) tA:=by
 intro wh pins s σ H Q I h
 refine isTrue_or (thn (ha pins s σ H Q I h) fun c s1 e=>?_)
 cases c with
 | false=>exact isTrue_or_nil e
 | true=>exact e
theorem pw_and (ha:PT X a tA)(hb:PW X (.BoolOp .And (b::rest) pos) tB'):PW X (.BoolOp .And (a::b::rest) pos) (tAnd tA tB'):=by
 intro wh pins s σ H Q I h
 refine isTrue_and (thn (ha pins s σ H _ I h) fun c s1 ⟨H1,I1,q1⟩=>?_)
 cases c with
 | true=>exact hb wh pins s1 σ H1 Q I1 q1
 | false=>exact ⟨H1,I1,q1⟩
theorem pw_or (ha:PT X a tA)(hb:PW X (.BoolOp .Or (b::rest) pos) tB'):PW X (.BoolOp .Or (a::b::rest) pos) (tOr tA tB'):=by
 intro wh pins s σ H Q I h
 refine isTrue_or (thn (ha pins s σ H _ I h) fun c s1 ⟨H1,I1,q1⟩=>?_)
 cases c with
 | true=>exact ⟨H1,I1,q1⟩
 | false=>exact hb wh pins s1 σ H1 Q I1 q1
theorem pt_not (ha:PT X a tA):PT X (.UnaryOp .Not a pos) (tNot tA):=by
 intro pins s σ H Q I h
 exact isTrue_not (ha pins s σ H (fun c H1=>Q (!c) H1) I h)
noncomputable def tAndV (ta tb:TE):TE:=fun σ H Q=>ta σ H fun x H1=>∃ c,x=.bl c/\if c=true then tb σ H1 Q else Q (.bl false) H1
noncomputable def tOrV (ta tb:TE):TE:=fun σ H Q=>ta σ H fun x H1=>∃ c,x=.bl c/\if c=true then Q (.bl true) H1 else tb σ H1 Q
noncomputable def tNotV (ta:TE):TE:=fun σ H Q=>ta σ H fun x H1=>∃ c,x=.bl c/\Q (.bl (!c)) H1
theorem pe_one {op} {t:TE}(h:PE X a t):PE X (.BoolOp op [a] pos) t:=fun pins s σ H Q I hw=>BoolOp_one (h pins s σ H Q I hw)
theorem pe_and (ha:PE X a ta)(hb:PE X (.BoolOp .And (b::rest) pos) tb):PE X (.BoolOp .And (a::b::rest) pos) (tAndV ta tb):=by
 intro pins s σ H Q I h
 refine BoolOp_and (thn (ha pins s σ H _ I h) fun v s1 ⟨x,H1,I1,r1,q1⟩=>?_)
 obtain ⟨c,rfl,q1⟩:=q1
 cases r1
 refine wpAny_truthy_bool ?_
 cases c with
 | true=>exact hb pins s1 σ H1 Q I1 q1
 | false=>exact ⟨.bl false,H1,I1,rfl,q1⟩
theorem pe_or (ha:PE X a ta)(hb:PE X (.BoolOp .Or (b::rest) pos) tb):PE X (.BoolOp .Or (a::b::rest) pos) (tOrV ta tb):=by
 intro pins s σ H Q I h
 refine BoolOp_or (thn (ha pins s σ H _ I h) fun v s1 ⟨x,H1,I1,r1,q1⟩=>?_)
 obtain ⟨c,rfl,q1⟩:=q1
 cases r1
 refine wpAny_truthy_bool ?_
 cases c with
 | false=>exact hb pins s1 σ H1 Q I1 q1
 | true=>exact ⟨.bl true,H1,I1,rfl,q1⟩
theorem pe_not (ha:PE X a ta):PE X (.UnaryOp .Not a pos) (tNotV ta):=by
 intro pins s σ H Q I h
 refine UnaryOp_ (thn (ha pins s σ H _ I h) fun v s1 ⟨x,H1,I1,r1,q1⟩=>?_)
 obtain ⟨c,rfl,q1⟩:=q1
 cases r1
 exact not_of (wpAny_truthy_bool ⟨.bl (!c),H1,I1,rfl,q1⟩)
noncomputable def tIf (t:TT)(ta tb:TE):TE:=fun σ H Q=>t σ H fun c H1=>if c=true then ta σ H1 Q else tb σ H1 Q
theorem pe_ifExp {c:Expr}(hc:PT X c tA)(ha:PE X a ta)(hb:PE X b tb):PE X (.IfExp c a b pos) (tIf tA ta tb):=by
 intro pins s σ H Q I h
 refine wpAny_IfExp (thn (hc pins s σ H _ I h) fun d s1 ⟨H1,I1,q1⟩=>?_)
 cases d with
 | true=>exact ha pins s1 σ H1 Q I1 q1
 | false=>exact hb pins s1 σ H1 Q I1 q1
end
end L2
namespace L2
open PySem PySem.Spec PyProof.Rows
noncomputable def SqL (K:PySem.W.Frag)(H:Hp)(a:Addr)(xs:List V):Prop:=
 Rd H a (.lst xs) \/
  ∃ (o:Obj)(its:Array Value)(n:Nat),K.lookup a=some o/\o.cls=.type "list"/\o.dict=none/\o.data=.seq its n/\its.size<=sizeLine/\Vals xs its.toList
noncomputable def SqT (K:PySem.W.Frag)(H:Hp)(a:Addr)(xs:List V):Prop:=
 Rd H a (.tup xs) \/
  ∃ (o:Obj)(its:Array Value)(n:Nat),K.lookup a=some o/\o.cls=.type "tuple"/\o.dict=none/\o.data=.seq its n/\its.size<=sizeLine/\Vals xs its.toList
noncomputable def absV:Value->Option V
 | .none=>some .non
 | .bool b=>some (.bl b)
 | .int i _=>some (.int i)
 | .str x _=>some (.str x)
 | .bytes b _=>some (.byt b)
 | .float b _=>some (.flt b)
 | .ref a=>some (.ref a)
 | .type n=>some (.ty n)
 | _=>none
theorem RelV.abs {x:V}{u:Value}(r:RelV x u):absV u=some x:=by
 cases x with
 | non=>cases r;rfl
 | bl _=>cases r;rfl
 | int _=>obtain ⟨t,rfl⟩:=r;rfl
 | str _=>obtain ⟨t,rfl⟩:=r;rfl
 | byt _=>obtain ⟨t,rfl⟩:=r;rfl
 | flt _=>obtain ⟨t,rfl⟩:=r;rfl
 | ref _=>cases r;rfl
 | ty _=>cases r;rfl
theorem RelV.inj {x y:V}{u:Value}(r:RelV x u)(q:RelV y u):x=y:=Option.some.inj (r.abs.symm.trans q.abs)
theorem Vals.inj:∀ {xs ys:List V}{us:List Value},Vals xs us->Vals ys us->xs=ys
 | _,_,_,.nil,.nil=>rfl
 | _,_,_,.cons r t,.cons r' t'=>by rw [r.inj r',Vals.inj t t']
section
variable {X:Cx}{pins:List (Addr×Obj)}{σ:St}{H:Hp}{s:Shared}{a:Addr}{xs ys:List V}
theorem SqL.of {K:PySem.W.Frag}(h:H a=some (.lst xs)):SqL K H a xs:=.inl (.inl h)
theorem SqT.of {K:PySem.W.Frag}(h:H a=some (.tup xs)):SqT K H a xs:=.inl (.inl h)
theorem Inv.list (I:Inv X pins σ H s)(h:SqL X.K H a xs):∃ its:List Value,Vals xs its/\PlainL s.heap a its.toArray/\xs.length<=sizeLine:=by
 rcases h with h|⟨o,its,n,hk,hc,hd,hs,hz,r⟩
 ·obtain ⟨z,its,n,r,e⟩:=h.ok I.hok
  exact ⟨its,r,⟨_,n,e,rfl,rfl,rfl⟩,z⟩
 ·refine ⟨its.toList,r,⟨o,n,I.kIn a o hk,hc,hd,by simpa using hs⟩,?_⟩
  have e:=r.length
  simp only [Array.length_toList] at e
  omega
theorem Inv.tuple (I:Inv X pins σ H s)(h:SqT X.K H a xs):∃ its:List Value,Vals xs its/\IsTup s.heap a its.toArray/\xs.length<=sizeLine:=by
 rcases h with h|⟨o,its,n,hk,hc,hd,hs,hz,r⟩
 ·obtain ⟨z,its,r,p⟩:=h.ok I.hok
  exact ⟨its,r,p.tup,z⟩
 ·refine ⟨its.toList,r,⟨o,I.kIn a o hk,hc,n,by simpa using hs⟩,?_⟩
  have e:=r.length
  simp only [Array.length_toList] at e
  omega
theorem Inv.list_inj (I:Inv X pins σ H s)(h:SqL X.K H a xs)(h':SqL X.K H a ys):xs=ys:=by
 obtain ⟨its,r,⟨o,n,e,_,_,d⟩,_⟩:=I.list h
 obtain ⟨its',r',⟨o',n',e',_,_,d'⟩,_⟩:=I.list h'
 rw [e] at e';cases e'
 rw [d] at d'
 injection d' with d1 _
 have:its=its':=by simpa using congrArg Array.toList d1
 subst this
 exact r.inj r'
theorem Inv.tuple_inj (I:Inv X pins σ H s)(h:SqT X.K H a xs)(h':SqT X.K H a ys):xs=ys:=by
 obtain ⟨its,r,⟨o,e,_,n,d⟩,_⟩:=I.tuple h
 obtain ⟨its',r',⟨o',e',_,n',d'⟩,_⟩:=I.tuple h'
 rw [e] at e';cases e'
 rw [d] at d'
 injection d' with d1 _
 have:its=its':=by simpa using congrArg Array.toList d1
 subst this
 exact r.inj r'
end
noncomputable abbrev Cx.wish (X:Cx)(E:Value->Shared->Prop):Cx:={ X with xe:=E }
noncomputable abbrev Cx.nox (X:Cx):Cx:=X.wish fun _ _=>False
theorem Cx.Ok.wish {X:Cx}(ok:X.Ok)(E:Value->Shared->Prop):(X.wish E).Ok:=
 ⟨ok.mod,ok.kind,ok.glob,ok.blt,ok.above,ok.inj,ok.has,ok.cab,ok.hd,ok.frames,ok.stk,ok.exf,ok.bs,ok.bsz,ok.noex,ok.exfs,ok.funs,ok.frf⟩
theorem Cx.Ok.unwish {X:Cx}{E:Value->Shared->Prop}(ok:(X.wish E).Ok):X.Ok:=
 ⟨ok.mod,ok.kind,ok.glob,ok.blt,ok.above,ok.inj,ok.has,ok.cab,ok.hd,ok.frames,ok.stk,ok.exf,ok.bs,ok.bsz,ok.noex,ok.exfs,ok.funs,ok.frf⟩
section
variable {X:Cx}{pins:List (Addr×Obj)}{σ:St}{H:Hp}{s:Shared}{E:Value->Shared->Prop}
theorem Inv.wish (I:Inv X pins σ H s)(E:Value->Shared->Prop):Inv (X.wish E) pins σ H s:=⟨I.ok.wish E,I.os,I.bare,I.base,I.loc,I.cell,I.free,I.freeC,I.pin,I.hok,I.len⟩
theorem Inv.unwish (I:Inv (X.wish E) pins σ H s):Inv X pins σ H s:=⟨I.ok.unwish,I.os,I.bare,I.base,I.loc,I.cell,I.free,I.freeC,I.pin,I.hok,I.len⟩
theorem SP.unwish {D:Ends}{f:Flow}{s':Shared}(h:SP (X.wish E) pins D f s'):SP X pins D f s':=by
 cases f with
 | next=>obtain ⟨σ',H',I,q⟩:=h;exact ⟨σ',H',I.unwish,q⟩
 | brk=>obtain ⟨σ',H',I,q⟩:=h;exact ⟨σ',H',I.unwish,q⟩
 | cont=>obtain ⟨σ',H',I,q⟩:=h;exact ⟨σ',H',I.unwish,q⟩
 | ret u=>obtain ⟨v,σ',H',I,r,q⟩:=h;exact ⟨v,σ',H',I.unwish,r,q⟩
theorem PSs.nox {st:List Stmt}{t:TS}(h:PSs X.nox st t):PSs X st t:=fun pins s σ H D I hw=>
 wpAny_mono (h pins s σ H D (I.wish _) hw) (fun _ _ q=>q.unwish) fun _ _ z=>False.elim z
end
section
variable {X:Cx}{st:Stmt}{rest:List Stmt}{t u:TS}{e:Expr}{te:TE}{pos:Pos}
noncomputable def tNext:TS:=fun D σ H=>D.nx σ H
noncomputable def tSeq (t u:TS):TS:=fun D σ H=>t { D with nx:=u D } σ H
theorem pss_nil:PSs X [] tNext:=fun _ _ σ H _ I h=>wpAny_execs_nil ⟨σ,H,I,h⟩
theorem pss_cons (h1:PS X st t)(h2:PSs X rest u):PSs X (st::rest) (tSeq t u):=by
 intro pins s σ H D I h
 refine wpAny_execs_cons (thn (h1 pins s σ H { D with nx:=u D } I h) fun f s1 q=>?_)
 cases f with
 | next=>
  obtain ⟨σ',H',I',q⟩:=q
  exact h2 pins s1 σ' H' D I' q
 | ret v=>exact q
 | brk=>exact q
 | cont=>exact q
theorem pss_one (h1:PS X st t):PSs X [st] t:=by
 intro pins s σ H D I h
 refine wpAny_execs_cons (thn (h1 pins s σ H D I h) fun f s1 q=>?_)
 cases f with
 | next=>exact wpAny_execs_nil q
 | ret v=>exact q
 | brk=>exact q
 | cont=>exact q
theorem ps_pass:PS X (.Pass pos) tNext:=fun _ _ σ H _ I h=>wpAny_Pass ⟨σ,H,I,h⟩
theorem Inv.quiet {pins:List (Addr×Obj)}{σ:St}{H:Hp}{s:Shared}(I:Inv X pins σ H s):interactive X.env=false:=by simp [interactive,I.ok.kind]
noncomputable def tDrop (te:TE):TS:=fun D σ H=>te σ H fun _ H1=>D.nx σ H1
theorem ps_expr (he:PE X e te)(hs:swapsWith e none pos.line X.env=pure false:=by rfl):PS X (.Expr e pos) (tDrop te):=by
 intro pins s σ H D I h
 exact wpAny_Expr_any (thn (he pins s σ H _ I h) fun v s1 ⟨x,H1,I1,r1,q1⟩=>⟨σ,H1,I1,q1⟩) I.quiet hs
noncomputable def tRet (te:TE):TS:=fun D σ H=>te σ H D.rt
theorem ps_ret (he:PE X e te):PS X (.Return (some e) pos) (tRet te):=by
 intro pins s σ H D I h
 exact wpAny_Return_some (thn (he pins s σ H _ I h) fun v s1 ⟨x,H1,I1,r1,q1⟩=>⟨x,σ,H1,I1,r1,q1⟩)
noncomputable def tRetN:TS:=fun D _ H=>D.rt .non H
theorem ps_retN:PS X (.Return none pos) tRetN:=fun _ _ σ H _ I h=>wpAny_Return_none ⟨.non,σ,H,I,rfl,h⟩
noncomputable def tIfS (c:TT)(t u:TS):TS:=fun D σ H=>c σ H fun b H1=>if b=true then t D σ H1 else u D σ H1
theorem ps_if {c:Expr}{a b:List Stmt}{tc:TT}(hc:PT X c tc)(ha:PSs X a t)(hb:PSs X b u):PS X (.If c a b pos) (tIfS tc t u):=by
 intro pins s σ H D I h
 refine wpAny_If (thn (hc pins s σ H _ I h) fun d s1 ⟨H1,I1,q1⟩=>?_)
 cases d with
 | true=>exact ha pins s1 σ H1 D I1 q1
 | false=>exact hb pins s1 σ H1 D I1 q1
end
noncomputable abbrev TG:=V->St->Hp->(St->Hp->Prop)->Prop
noncomputable abbrev TGs:=List V->St->Hp->(St->Hp->Prop)->Prop
noncomputable def PG (X:Cx)(target:Expr)(t:TG):Prop:=
 ∀ (pins:List (Addr×Obj))(s:Shared)(σ:St)(H:Hp)(v:V)(u:Value)(Q:St->Hp->Prop),Inv X pins σ H s->RelV v u->t v σ H Q->
  wpAny (model X.prog X.w) X.A (assign target X.env u) (fun _ s'=>∃ σ' H',Inv X pins σ' H' s'/\Q σ' H') X.xe s
noncomputable def PGs (X:Cx)(ts:List Expr)(t:TGs):Prop:=
 ∀ (pins:List (Addr×Obj))(s:Shared)(σ:St)(H:Hp)(vs:List V)(us:List Value)(Q:St->Hp->Prop),Inv X pins σ H s->Vals vs us->t vs σ H Q->
  wpAny (model X.prog X.w) X.A (assignInOrder ((assignEach ts X.env).map (·.2)) us) (fun _ s'=>∃ σ' H',Inv X pins σ' H' s'/\Q σ' H') X.xe s
noncomputable abbrev TSet:=V->V->V->Hp->(Hp->Prop)->Prop
noncomputable def PSet (X:Cx)(t:TSet):Prop:=
 ∀ (pins:List (Addr×Obj))(s:Shared)(σ:St)(H:Hp)(o i v:V)(ov iv u:Value)(Q:Hp->Prop),Inv X pins σ H s->RelV o ov->RelV i iv->RelV v u->t o i v H Q->
  wpAny (model X.prog X.w) X.A (setItem ov iv u) (fun _ s'=>∃ H',Inv X pins σ H' s'/\Q H') X.xe s
section
variable {X:Cx}{pos:Pos}
noncomputable def gName (i:Nat):TG:=fun v σ H Q=>Q (σ.set i (some v)) H
theorem pg_name {i:Nat}{x:Str}(hN:X.N.Nodup)(hi:X.N[i]? = some x)(hx:Loc X.env.scope x)(hf:X.fn x=true\/X.env.scope.names.lookup x=some .local:=by first|exact .inl rfl|exact .inr rfl|assumption):PG X (.Name x pos) (gName i):=by
 intro pins s σ H v u Q I r h
 exact wpAny_assign_Name (store_ok I hN hi hx r (fun s' I'=>⟨_,H,I',h⟩) hf)
noncomputable def gNil:TGs:=fun vs σ H Q=>vs=[]/\Q σ H
noncomputable def gCons (t:TG)(u:TGs):TGs:=fun vs σ H Q=>∃ v r,vs=v::r/\t v σ H fun σ' H'=>u r σ' H' Q
theorem pgs_nil:PGs X [] gNil:=by
 intro pins s σ H vs us Q I r h
 obtain ⟨e,h⟩:=h
 subst e
 cases r
 exact assignInOrder_nil ⟨σ,H,I,h⟩
theorem pgs_cons {e:Expr}{es:List Expr}{t:TG}{u:TGs}(h1:PG X e t)(h2:PGs X es u)
  (hs:(assignEach (e::es) X.env).map (·.2)=assign e X.env::(assignEach es X.env).map (·.2):=by rfl):PGs X (e::es) (gCons t u):=by
 intro pins s σ H vs us Q I r h
 obtain ⟨v,vr,e1,h⟩:=h
 subst e1
 cases r with
 | cons r rr=>
  rw [hs]
  refine assignInOrder_cons (thn (h1 pins s σ H _ _ _ I r h) fun _ s1 ⟨σ1,H1,I1,q1⟩=>?_)
  exact h2 pins s1 σ1 H1 _ _ Q I1 rr q1
noncomputable def tAsg (te:TE)(g:TG):TS:=fun D σ H=>te σ H fun x H1=>g x σ H1 D.nx
theorem ps_asg {tg e:Expr}{te:TE}{g:TG}(he:PE X e te)(hg:PG X tg g)(hs:swapsWithSole [tg] e pos.line X.env=pure false:=by rfl)(hw:swappedStores [tg] e X.env=pure none:=by rfl)
  (h1:(assignEach [tg] X.env).map (·.2)=[assign tg X.env]:=by rfl):PS X (.Assign [tg] e pos) (tAsg te g):=by
 intro pins s σ H D I h
 refine wpAny_Assign_stores (thn (he pins s σ H _ I h) fun v s1 ⟨x,H1,I1,r1,q1⟩=>?_) hs hw
 rw [h1]
 exact thn (hg pins s1 σ H1 x v _ I1 r1 q1) fun _ s2 q=>q
theorem ps_set {i:Nat}{x:Str}{e:Expr}{te:TE}{pos':Pos}(hN:X.N.Nodup)(hi:X.N[i]? = some x)(hx:Loc X.env.scope x)(he:PE X e te)(hs:swapsWith e (some (.Name x pos')) pos.line X.env=pure false:=by rfl)(hf:X.fn x=true\/X.env.scope.names.lookup x=some .local:=by first|exact .inl rfl|exact .inr rfl|assumption) :
  PS X (.Assign [.Name x pos'] e pos) (tAsg te (gName i)):=by
 intro pins s σ H D I h
 refine wpAny_Assign_Name (thn (he pins s σ H _ I h) fun v s1 ⟨y,H1,I1,r1,q1⟩=>?_) hs
 exact store_ok I1 hN hi hx r1 (fun s2 I2=>⟨_,H1,I2,q1⟩) hf
end
section
variable {X:Cx}{pos:Pos}
noncomputable def tWhile (c:TT)(tb:TS):TS:=fun D σ H=>∃ W:Nat->St->Hp->Prop,(∃ m,W m σ H)/\∀ m σ H,W m σ H->
 c σ H fun b H1=>if b=true then ∃ N:St->Hp->Prop,(∀ σ' H',N σ' H'->∃ m',m'<m/\W m' σ' H')/\tb { D with nx:=N,ct:=N,bk:=D.nx } σ H1 else D.nx σ H1
theorem ps_while {c:Expr}{body:List Stmt}{tc:TT}{tb:TS}(hp:PassesOwn (model X.prog X.w) X.A X.env X.xe)(hc:PT X c tc)(hb:PSs X body tb):PS X (.While c body [] pos) (tWhile tc tb):=by
 intro pins s σ H D I h
 obtain ⟨W,⟨m0,w0⟩,turn⟩:=h
 refine wpAny_While (codeAny_whileLoop (fun n s'=>∃ σ' H',Inv X pins σ' H' s'/\W n σ' H') ?_ m0 ⟨σ,H,I,w0⟩)
 rintro n s1 ⟨σ1,H1,I1,w1⟩
 refine wpAny_passesOwn hp (thn (hc pins s1 σ1 H1 _ I1 (turn n σ1 H1 w1)) fun b s2 ⟨H2,I2,q2⟩=>?_)
 cases b with
 | true=>
  obtain ⟨N,hN,q2⟩:=q2
  rw [if_pos rfl]
  refine wpAny_passesOwn hp (thn (hb pins s2 σ1 H2 _ I2 q2) fun f s3 q3=>?_)
  cases f with
  | next=>
   obtain ⟨σ3,H3,I3,n3⟩:=q3
   obtain ⟨m',hm,w3⟩:=hN σ3 H3 n3
   exact ⟨m',hm,σ3,H3,I3,w3⟩
  | cont=>
   obtain ⟨σ3,H3,I3,n3⟩:=q3
   obtain ⟨m',hm,w3⟩:=hN σ3 H3 n3
   exact ⟨m',hm,σ3,H3,I3,w3⟩
  | brk=>exact q3
  | ret v=>exact q3
 | false=>
  rw [if_neg Bool.false_ne_true]
  exact wpAny_execs_nil ⟨σ1,H2,I2,q2⟩
end
structure It where
 go:Nat->Hp->Prop
 yld:Nat->Hp->V->Hp->Prop
 stop:Nat->Hp->Prop
noncomputable def FpOk (X:Cx)(pins:List (Addr×Obj))(H:Hp)(b:Addr):Prop:=
 H b=none/\b≠X.env.locals/\b∉X.fs/\(b∈X.ex\/X.s₀.heap.objs.size<=b)/\(∀ x c,X.env.cells.lookup x=some c->c≠b)/\∀ p∈X.pn++pins,p.1≠b
theorem Inv.fpOk {X:Cx}{pins:List (Addr×Obj)}{σ:St}{H H':Hp}{s:Shared}{b:Addr}(I:Inv X pins σ H s)(hb:s.heap.objs.size<=b)(hn:H' b=none):FpOk X pins H' b:=by
 refine ⟨hn,Nat.ne_of_gt (Nat.lt_of_lt_of_le I.lt hb),I.nofs hb,.inr (Nat.le_trans I.sz hb),fun x c e z=>?_,fun p hp z=>?_⟩
 ·obtain ⟨v,q⟩:=I.cell x c e
  exact absurd (Nat.lt_of_lt_of_le q.lt (by rw [z];exact hb)) (Nat.lt_irrefl _)
 ·exact absurd (Nat.lt_of_lt_of_le (Heap.lt_size (I.pin p hp).1) (by rw [z];exact hb)) (Nat.lt_irrefl _)
structure Turn (P:Program)(w:World)(K:PySem.W.Frag)(tg:Expr)(J:It)(fp:List Addr)(it:Addr)(tn:Nat->Heap->Prop):Prop where
 mem:it∈fp
 obj:∀ i h,tn i h->∀ b∈fp,∃ o,h.get? b=some o/\∀ v,o.data≠.cell v
 keep:∀ i h h',tn i h->(∀ b∈fp,∀ o,h.get? b=some o->h'.get? b=some o)->tn i h'
 item:∀ (X:Cx),X.prog=P->X.w=w->X.K=K->X.calm=true->∀ (i:Nat)(pins:List (Addr×Obj))(s:Shared)(σ:St)(H:Hp)(E:Value->Shared->Prop),Inv X pins σ H s->(∀ b∈fp,FpOk X pins H b)->tn i s.heap->J.go i H->
  wpAny (model P w) X.A (pyNext (.ref it)) (fun r s1=>∃ u,r=some u /\
   wpAny (model P w) X.A (letOwnedTupleGo tg (.ref it) u) (fun _ s2=>∃ x H',Inv X pins σ H' s2/\RelV x u/\J.yld i H x H'/\tn (i+1) s2.heap/\∀ b∈fp,H' b=none) E s1) E s
 done:∀ (X:Cx),X.prog=P->X.w=w->X.K=K->X.calm=true->∀ (i:Nat)(pins:List (Addr×Obj))(s:Shared)(σ:St)(H:Hp)(E:Value->Shared->Prop),Inv X pins σ H s->(∀ b∈fp,FpOk X pins H b)->tn i s.heap->J.stop i H->
  wpAny (model P w) X.A (pyNext (.ref it)) (fun r s1=>r=none/\Inv X pins σ H s1) E s
 self:∀ (A:Around)(i:Nat)(s:Shared)(Q:Value->Shared->Prop)(E:Value->Shared->Prop),tn i s.heap->Q (.ref it) s->wpAny (model P w) A (pyIter (.ref it)) Q E s
noncomputable abbrev TI:=St->Hp->(It->Hp->Prop)->Prop
noncomputable def PIE (X:Cx)(pins:List (Addr×Obj))(σ:St)(tg:Expr)(R:It->Hp->Prop)(itv:Value)(s2:Shared):Prop:=
 ∃ (it:Addr)(fp:List Addr)(tn:Nat->Heap->Prop)(J:It)(H':Hp),itv=.ref it/\Inv X pins σ H' s2/\Turn X.prog X.w X.K tg J fp it tn/\tn 0 s2.heap/\(∀ b∈fp,FpOk X pins H' b)/\R J H'
noncomputable def PI (X:Cx)(tg iter:Expr)(wi:TI):Prop:=
 ∀ (pins:List (Addr×Obj))(s:Shared)(σ:St)(H:Hp)(R:It->Hp->Prop),Inv X pins σ H s->wi σ H R->
  wpAny (model X.prog X.w) X.A (eval iter X.env) (fun v s1=>wpAny (model X.prog X.w) X.A (pyIter v) (PIE X pins σ tg R) X.xe s1) X.xe s
theorem go_of {M:Model}{A:Around}{E:Value->Shared->Prop}{s:Shared}{tg:Expr}{it:Addr}{u:Value}{o:Obj}{n:String}{vs:Array Value}{Q:Unit->Shared->Prop}(ho:s.heap.get? it=some o)(hc:o.cls=.type n)(hd:o.data=.fields vs)
  (hn:["enumerate","zip","dict_itemiterator","dict_reverseitemiterator","odict_iterator","itertools.zip_longest","itertools.pairwise"].contains n=false) (hQ:Q () s):wpAny M A (letOwnedTupleGo tg (.ref it) u) Q E s:=by
 unfold letOwnedTupleGo
 cases tg<;>first
  | exact wpAny_pure hQ
  | (cases u<;>first
    | exact wpAny_pure hQ
    | (refine wpAny_bind (wpAny_load ho ?_)
       rw [hc,hd]
       show wpAny M A (if (["enumerate","zip","dict_itemiterator","dict_reverseitemiterator","odict_iterator","itertools.zip_longest","itertools.pairwise"].contains n&&vs[0]? == some (rawInt _))=true then _ else _) Q E s
       rw [if_neg (by intro h;rw [hn,Bool.false_and] at h;cases h)]
       exact wpAny_pure hQ))
noncomputable def Itl (K:PySem.W.Frag)(a:Addr):It:=
 ⟨fun i H=>∃ xs x,SqL K H a xs/\xs[i]? = some x,fun i H x H'=>H'=H/\∀ xs,SqL K H a xs->xs[i]? = some x,fun i H=>∃ xs,SqL K H a xs/\xs.length<=i⟩
noncomputable def Itt (K:PySem.W.Frag)(a:Addr):It:=
 ⟨fun i H=>∃ xs x,SqT K H a xs/\xs[i]? = some x,fun i H x H'=>H'=H/\∀ xs,SqT K H a xs->xs[i]? = some x,fun i H=>∃ xs,SqT K H a xs/\xs.length<=i⟩
noncomputable def Itr (lo:Int)(n:Nat):It:=⟨fun i _=>i<n,fun i H x H'=>H'=H/\x=.int (lo+i),fun i _=>n<=i⟩
theorem turn_list {P:Program}{w:World}{K:PySem.W.Frag}{tg:Expr}(a it:Addr):Turn P w K tg (Itl K a) [it] it (fun i h=>h.IsListIter it a i) where
 mem:=by simp
 obj:=fun i h st b hb=>by
  have e:b=it:=by simpa using hb
  subst e
  obtain ⟨o,e,c,d⟩:=st
  exact ⟨o,e,fun v z=>by rw [d] at z;cases z⟩
 keep:=fun i h h' st k=>st.at fun o e=>k it (by simp) o e
 item:=by
  intro X hP hw hK hc i pins s σ H E I hf st hg
  subst hP hw hK
  obtain ⟨xs,x,hq,hx⟩:=hg
  obtain ⟨its,rv,p,hz⟩:=I.list hq
  obtain ⟨u,hu,ru⟩:=rv.get hx
  obtain ⟨f0,f1,f2,f3,f4,f5⟩:=hf it (by simp)
  refine wpAny_pyNext_list_item st p.isList (x:=u) (by simpa using hu) fun h' st' sb=>?_
  have I1:Inv X pins σ H { s with heap:=h' }:=I.turned (t':=s.toks) (fun b o hb e=>(sb.2 b hb).trans e) f0 f1 f3 f4 f5
  obtain ⟨o,e,c,d⟩:=id st'
  exact ⟨u,rfl,go_of (s:={ s with heap:=h' }) e c d (by decide) ⟨x,H,I1,ru,⟨rfl,fun ys hy=>by rw [I.list_inj hy hq];exact hx⟩,st',fun b hb=>(hf b hb).1⟩⟩
 done:=by
  intro X hP hw hK hc i pins s σ H E I hf st hg
  subst hP hw hK
  obtain ⟨xs,hq,hx⟩:=hg
  obtain ⟨its,rv,p,hz⟩:=I.list hq
  obtain ⟨f0,f1,f2,f3,f4,f5⟩:=hf it (by simp)
  have hl:=rv.length
  exact wpAny_pyNext_list_end (I.ok.hd hc) st p.isList (by simp;omega) fun h' eb=>⟨rfl,I.turned (t':=s.toks) (fun b o hb e=>eb b o hb e) f0 f1 f3 f4 f5⟩
 self:=fun _ _ _ _ _ st h=>wpAny_pyIter_listiter st h
theorem turn_tuple {P:Program}{w:World}{K:PySem.W.Frag}{tg:Expr}(a it:Addr):Turn P w K tg (Itt K a) [it] it (fun i h=>h.IsTupleIter it a i) where
 mem:=by simp
 obj:=fun i h st b hb=>by
  have e:b=it:=by simpa using hb
  subst e
  obtain ⟨o,e,c,d⟩:=st
  exact ⟨o,e,fun v z=>by rw [d] at z;cases z⟩
 keep:=fun i h h' st k=>st.at fun o e=>k it (by simp) o e
 item:=by
  intro X hP hw hK hc i pins s σ H E I hf st hg
  subst hP hw hK
  obtain ⟨xs,x,hq,hx⟩:=hg
  obtain ⟨its,rv,p,hz⟩:=I.tuple hq
  obtain ⟨u,hu,ru⟩:=rv.get hx
  obtain ⟨f0,f1,f2,f3,f4,f5⟩:=hf it (by simp)
  refine wpAny_pyNext_tuple_item st (show s.heap.IsTuple a its.toArray from p) (x:=u) (by simpa using hu) fun h' st' sb=>?_
  have I1:Inv X pins σ H { s with heap:=h' }:=I.turned (t':=s.toks) (fun b o hb e=>(sb.2 b hb).trans e) f0 f1 f3 f4 f5
  obtain ⟨o,e,c,d⟩:=id st'
  exact ⟨u,rfl,go_of (s:={ s with heap:=h' }) e c d (by decide) ⟨x,H,I1,ru,⟨rfl,fun ys hy=>by rw [I.tuple_inj hy hq];exact hx⟩,st',fun b hb=>(hf b hb).1⟩⟩
 done:=by
  intro X hP hw hK hc i pins s σ H E I hf st hg
  subst hP hw hK
  obtain ⟨xs,hq,hx⟩:=hg
  obtain ⟨its,rv,p,hz⟩:=I.tuple hq
  obtain ⟨f0,f1,f2,f3,f4,f5⟩:=hf it (by simp)
  have hl:=rv.length
  exact wpAny_pyNext_tuple_end (I.ok.hd hc) st (show s.heap.IsTuple a its.toArray from p) (by simp;omega) fun h' eb=>⟨rfl,I.turned (t':=s.toks) (fun b o hb e=>eb b o hb e) f0 f1 f3 f4 f5⟩
 self:=fun _ _ _ _ _ st h=>wpAny_pyIter_tupleiter st h
theorem turn_range {P:Program}{w:World}{K:PySem.W.Frag}{tg:Expr}(it:Addr)(lo:Int)(n:Nat):Turn P w K tg (Itr lo n) [it] it (fun i h=>IsRangeIter h it (lo+(i:Nat) * 1) ((n:Int) - (i:Nat)) 1) where
 mem:=by simp
 obj:=fun i h st b hb=>by
  have e:b=it:=by simpa using hb
  subst e
  exact ⟨_,st,fun v z=>by
   have z':Data.fields _=Data.cell v:=z
   cases z'⟩
 keep:=fun i h h' st k=>k it (by simp) _ st
 item:=by
  intro X hP hw hK hc i pins s σ H E I hf st hg
  subst hP hw hK
  obtain ⟨f0,f1,f2,f3,f4,f5⟩:=hf it (by simp)
  have W:=Walks.range (prog:=X.prog) (w:=X.w) (I.ok.hd hc) it lo 1 n
  refine W.item i s _ _ hg st fun v h' tk hv st' kk=>?_
  obtain ⟨t,rfl⟩:=hv
  have I1:Inv X pins σ H { s with heap:=h',toks:=tk }:=I.turned (fun b o hb e=>kk b o (by simpa using hb) e) f0 f1 f3 f4 f5
  refine ⟨_,rfl,go_of (s:={ s with heap:=h',toks:=tk }) (n:="range_iterator") st' rfl rfl (by decide) ⟨.int (lo+i),H,I1,⟨t,?_⟩,⟨rfl,rfl⟩,st',fun b hb=>(hf b hb).1⟩⟩
  rw [Int.mul_one]
 done:=by
  intro X hP hw hK hc i pins s σ H E I hf st hg
  subst hP hw hK
  obtain ⟨f0,f1,f2,f3,f4,f5⟩:=hf it (by simp)
  exact wpAny_pyNext_range_end (I.ok.hd hc) st (by have:n<=i:=hg;omega) fun h' eb=>⟨rfl,I.turned (t':=s.toks) (fun b o hb e=>eb b o hb e) f0 f1 f3 f4 f5⟩
 self:=fun _ _ _ _ _ st h=>wpAny_pyIter_rangeiter st h
end L2
namespace L2
open PySem PySem.Spec PyProof.Rows
section
variable {X:Cx}{tg:Expr}
theorem range_it {pins:List (Addr×Obj)}{σ:St}{H:Hp}{s:Shared}{R:It->Hp->Prop}{E:Value->Shared->Prop}{lo hi:Int}{t u v:Tok}{tk:Nat}(I:Inv X pins σ H s)(h1:-(2 ^ 62)<=lo)(h2:lo<2 ^ 62)(h3:-(2 ^ 62)<=hi)(h4:hi<2 ^ 62)
  (q:R (Itr lo (hi - lo).toNat) H):wpAny (model X.prog X.w) X.A (pyIter (.ref s.heap.objs.size)) (PIE X pins σ tg R) E { s with heap:=s.heap.push { cls:=.type "range",data:=.fields #[.int lo t,.int hi u,.int 1 v] },toks:=tk }:=by
 refine wpAny_pyIter_range (IsRange.new ..) (small_one h1 h2 h3 h4) ?_
 have I1:Inv X pins σ H { s with heap:=s.heap.push { cls:=.type "range",data:=.fields #[.int lo t,.int hi u,.int 1 v] },toks:=tk }:=I.kept fun b o e=>Heap.get?_push_of_some _ e
 refine ⟨(s.heap.push { cls:=.type "range",data:=.fields #[.int lo t,.int hi u,.int 1 v] }).objs.size,[(s.heap.push { cls:=.type "range",data:=.fields #[.int lo t,.int hi u,.int 1 v] }).objs.size],_,_,H,rfl,
  I1.kept (t':=tk) fun b o e=>Heap.get?_push_of_some _ e,turn_range _ lo (hi - lo).toNat,?_,fun b hb=>?_,q⟩
 ·have e1:lo+((0:Nat):Int) * 1=lo:=by simp
  have e2:(((hi - lo).toNat:Nat):Int) - ((0:Nat):Int)=Builtin.Range.rangeSize lo hi 1:=by rw [rangeSize_one];split<;>omega
  show IsRangeIter _ _ (lo+((0:Nat):Int) * 1) ((((hi - lo).toNat:Nat):Int) - ((0:Nat):Int)) 1
  rw [e1,e2]
  exact Heap.get?_push_size _ rfl
 ·have e:b=(s.heap.push { cls:=.type "range",data:=.fields #[.int lo t,.int hi u,.int 1 v] }).objs.size:=by simpa using hb
  subst e
  exact I1.fpOk (Nat.le_refl _) (I1.hok.fresh (Nat.le_refl _))
noncomputable def iRng1 (ta:TA):TI:=fun σ H R=>ta σ H fun vs H1=>∃ j:Int,vs=[.int j]/\-(2 ^ 62)<=j/\j<2 ^ 62/\R (Itr 0 j.toNat) H1
theorem pi_range1 {a:Expr}{ta:TA}{p pos:Pos}(hg:Gl X "range") (hm:X.mg "range" = none) (ha:PA X [a] ta)(hs:starEach [a] X.env=[(false,eval a X.env)]:=by rfl):PI X tg (.Call (.Name "range" p) [a] [] pos) (iRng1 ta):=by
 intro pins s σ H R I h
 refine Call_ (ld_blt I hg hm boot_range (PyProof.Rows.callWith_type1 (thn (ha pos pins s σ H _ I h) fun us s1 ⟨vs,H1,I1,r1,q1⟩=>?_) hs rfl))
 obtain ⟨j,e,q1,q2,q⟩:=q1
 subst e
 cases r1 with
 | cons r rr=>
  cases rr
  obtain ⟨t,rfl⟩:=r
  exact call_range_1 (range_it I1 (by omega) (by omega) q1 q2 (by simpa using q))
noncomputable def tFor (wi:TI)(g:TG)(tb:TS):TS:=fun D σ H=>wi σ H fun J H1=>∃ W:Nat->Nat->St->Hp->Prop,(∃ m,W 0 m σ H1)/\∀ i m σ H,W i m σ H->
 (J.stop i H/\D.nx σ H)\/(J.go i H/\∃ N:St->Hp->Prop,(∀ σ' H',N σ' H'->∃ m',m'<m/\W (i+1) m' σ' H')/\∀ x H',J.yld i H x H'->g x σ H' fun σ2 H2=>tb { D with nx:=N,ct:=N,bk:=D.nx } σ2 H2)
noncomputable def pinsAt (fp:List Addr)(h:Heap):List (Addr×Obj):=fp.filterMap fun b=>(h.get? b).map fun o=>(b,o)
theorem mem_pinsAt {fp:List Addr}{h:Heap}{b:Addr}{o:Obj}(hb:b∈fp)(e:h.get? b=some o):(b,o)∈pinsAt fp h:=List.mem_filterMap.mpr ⟨b,hb,by rw [e];rfl⟩
theorem of_pinsAt {fp:List Addr}{h:Heap}{p:Addr×Obj}(hp:p∈pinsAt fp h):p.1∈fp/\h.get? p.1=some p.2:=by
 obtain ⟨b,hb,e⟩:=List.mem_filterMap.mp hp
 cases q:h.get? b with
 | none=>rw [q] at e;cases e
 | some o=>
  rw [q] at e
  have e':(b,o)=p:=Option.some.inj e
  subst e'
  exact ⟨hb,q⟩
theorem Inv.pinned {pins:List (Addr×Obj)}{σ:St}{H:Hp}{s:Shared}{fp:List Addr}(I:Inv X pins σ H s)(hf:∀ b∈fp,FpOk X pins H b)(ho:∀ b∈fp,∃ o,s.heap.get? b=some o/\∀ v,o.data≠.cell v):Inv X (pins++pinsAt fp s.heap) σ H s:=
 I.pins_of fun p hp=>(List.mem_append.mp hp).elim (fun z=>I.pin p (List.mem_append_right _ z)) fun z=>by
  obtain ⟨hb,e⟩:=of_pinsAt z
  obtain ⟨f0,f1,f2,_⟩:=hf p.1 hb
  obtain ⟨o,e',d⟩:=ho p.1 hb
  rw [e] at e';cases e'
  exact ⟨e,f0,f1,f2,d⟩
theorem Inv.unpinned {pins pl:List (Addr×Obj)}{σ:St}{H:Hp}{s:Shared}(I:Inv X (pins++pl) σ H s):Inv X pins σ H s:=I.pins_of fun p hp=>I.pin p (List.mem_append_right _ (List.mem_append_left _ hp))
theorem ps_for {iter:Expr}{body:List Stmt}{wi:TI}{g:TG}{tb:TS}{pos:Pos}(hp:PassesOwn (model X.prog X.w) X.A X.env X.xe)(hc:X.calm=true)(hi:PI X tg iter wi)(hg:PG X tg g)(hb:PSs X body tb)
  (hs:∀ x,foldedSetIterable iter X.env x=pure x:=by intro _;rfl):PS X (.For tg iter body [] pos) (tFor wi g tb):=by
 intro pins s σ H D I h
 refine wpAny_For (thn (hi pins s σ H _ I h) fun v s1 h1=>thn h1 fun itv s2 h2=>?_) hs
 obtain ⟨it,fp,tn,J,H2,e,I2,T,st2,f2,W,⟨m0,w0⟩,turn⟩:=h2
 subst e
  -- what stays true of the iterator's objects through the loop
 have stat:∀ {H':Hp},(∀ b∈fp,H' b=none)->∀ b∈fp,FpOk X pins H' b:=fun hn b hb=>⟨hn b hb,(f2 b hb).2⟩
 refine codeAny_forLoop_any (fun n s'=>∃ i σ' H',Inv X pins σ' H' s'/\tn i s'.heap/\(∀ b∈fp,H' b=none)/\W i n σ' H') ?_ m0 ⟨0,σ,H2,I2,st2,fun b hb=>(f2 b hb).1,w0⟩
 rintro n s3 ⟨i,σ3,H3,I3,st3,fr3,w3⟩
 rcases turn i n σ3 H3 w3 with ⟨stop,qn⟩|⟨go,N,hN,step⟩
 ·refine wpAny_passesOwn hp (thn (T.done X rfl rfl rfl hc i pins s3 σ3 H3 X.xe I3 (stat fr3) st3 stop) fun r s4 ⟨hr,I4⟩=>?_)
  subst hr
  exact wpAny_execs_nil ⟨σ3,H3,I4,qn⟩
 ·refine wpAny_passesOwn hp (thn (T.item X rfl rfl rfl hc i pins s3 σ3 H3 X.xe I3 (stat fr3) st3 go) fun r s4 ⟨u,hr,h4⟩=>?_)
  subst hr
  refine wpAny_passesOwn hp (thn h4 fun _ s5 ⟨x,H5,I5,r5,y5,st5,fr5⟩=>?_)
  have I5':=I5.pinned (stat fr5) (T.obj _ _ st5)
  refine wpAny_passesOwn hp (thn (hg _ s5 σ3 H5 x u _ I5' r5 (step x H5 y5)) fun _ s6 ⟨σ6,H6,I6,q6⟩=>?_)
  refine wpAny_passesOwn hp (thn (hb _ s6 σ6 H6 _ I6 q6) fun f s7 q7=>?_)
  have again:∀ {σ7:St}{H7:Hp},Inv X (pins++pinsAt fp s5.heap) σ7 H7 s7->N σ7 H7->∃ m,m<n/\∃ i σ' H',Inv X pins σ' H' s7/\tn i s7.heap/\(∀ b∈fp,H' b=none)/\W i m σ' H':=fun {σ7 H7} I7 n7=>by
   obtain ⟨m',hm,w7⟩:=hN σ7 H7 n7
   refine ⟨m',hm,i+1,σ7,H7,I7.unpinned,T.keep _ _ _ st5 fun b hb o e=>(I7.pin (b,o) (List.mem_append_right _ (List.mem_append_right _ (mem_pinsAt hb e)))).1,fun b hb=>?_,w7⟩
   obtain ⟨o,e,d⟩:=T.obj _ _ st5 b hb
   exact (I7.pin (b,o) (List.mem_append_right _ (List.mem_append_right _ (mem_pinsAt hb e)))).2.1
  cases f with
  | next=>obtain ⟨σ7,H7,I7,n7⟩:=q7;exact again I7 n7
  | cont=>obtain ⟨σ7,H7,I7,n7⟩:=q7;exact again I7 n7
  | brk=>obtain ⟨σ7,H7,I7,q7⟩:=q7;exact ⟨σ7,H7,I7.unpinned,q7⟩
  | ret v=>obtain ⟨x7,σ7,H7,I7,r7,q7⟩:=q7;exact ⟨x7,σ7,H7,I7.unpinned,r7,q7⟩
end
end L2
namespace L2
open PySem PySem.Spec PyProof.Rows
noncomputable abbrev R2:=V->V->Hp->VK->Prop
noncomputable def OpR (X:Cx)(f:Value->Value->Sem Value)(r:R2):Prop:=
 ∀ (pins:List (Addr×Obj))(s:Shared)(σ:St)(H:Hp)(x y:V)(v u:Value)(Q:VK),Inv X pins σ H s->RelV x v->RelV y u->r x y H Q->
  wpAny (model X.prog X.w) X.A (f v u) (EP X pins σ Q) X.xe s
noncomputable def UnR (X:Cx)(f:Value->Sem Value)(r:V->Hp->VK->Prop):Prop:=
 ∀ (pins:List (Addr×Obj))(s:Shared)(σ:St)(H:Hp)(x:V)(v:Value)(Q:VK),Inv X pins σ H s->RelV x v->r x H Q->
  wpAny (model X.prog X.w) X.A (f v) (EP X pins σ Q) X.xe s
noncomputable def CallR (X:Cx)(f:Value)(r:List V->Hp->VK->Prop):Prop:=
 ∀ (pins:List (Addr×Obj))(s:Shared)(σ:St)(H:Hp)(xs:List V)(us:List Value)(Q:VK),Inv X pins σ H s->Vals xs us->r xs H Q->
  wpAny (model X.prog X.w) X.A (call f us) (EP X pins σ Q) X.xe s
noncomputable def TruR (X:Cx)(r:V->Hp->(Bool->Hp->Prop)->Prop):Prop:=
 ∀ (pins:List (Addr×Obj))(s:Shared)(σ:St)(H:Hp)(x:V)(v:Value)(Q:Bool->Hp->Prop),Inv X pins σ H s->RelV x v->r x H Q->
  wpAny (model X.prog X.w) X.A (truthy v) (TP X pins σ Q) X.xe s
noncomputable def tOp (r:R2)(ta tb:TE):TE:=fun σ H Q=>ta σ H fun x H1=>tb σ H1 fun y H2=>r x y H2 Q
noncomputable def tUn (r:V->Hp->VK->Prop)(ta:TE):TE:=fun σ H Q=>ta σ H fun x H1=>r x H1 Q
noncomputable def rI (C:Int->Int->Prop)(g:Int->Int->V):R2:=fun x y H Q=>∃ i j,x=.int i/\y=.int j/\C i j/\Q (g i j) H
noncomputable def rI0 (g:Int->Int->V):R2:=fun x y H Q=>∃ i j,x=.int i/\y=.int j/\Q (g i j) H
noncomputable def rU (g:Int->V):V->Hp->VK->Prop:=fun x H Q=>∃ i,x=.int i/\Q (g i) H
section
variable {X:Cx}{a b c:Expr}{ta tb tc:TE}{pos:Pos}
theorem binT (ha:PE X a ta)(hb:PE X b tb){pins:List (Addr×Obj)}{s:Shared}{σ:St}{H:Hp}{R:V->V->Hp->Prop}(I:Inv X pins σ H s)
  (h:ta σ H fun x H1=>tb σ H1 fun y H2=>R x y H2){Q:Value->Shared->Prop}{f:Value->Value->Sem Value}
  (hf:∀ v u s2 x y H2,Inv X pins σ H2 s2->RelV x v->RelV y u->R x y H2->wpAny (model X.prog X.w) X.A (f v u) Q X.xe s2) :
  wpAny (model X.prog X.w) X.A (eval a X.env) (fun v s₁=>wpAny (model X.prog X.w) X.A (eval b X.env) (fun u s₂=>wpAny (model X.prog X.w) X.A (f v u) Q X.xe s₂) X.xe s₁) X.xe s:=by
 refine thn (ha pins s σ H _ I h) fun v s1 ⟨x,H1,I1,r1,q1⟩=>?_
 refine thn (hb pins s1 σ H1 _ I1 q1) fun u s2 ⟨y,H2,I2,r2,q2⟩=>?_
 exact hf v u s2 x y H2 I2 r1 r2 q2
theorem pe_op {op:Operator}{r:R2}(ho:OpR X (binaryOp op) r)(ha:PE X a ta)(hb:PE X b tb):PE X (.BinOp a op b pos) (tOp r ta tb):=by
 intro pins s σ H Q I h
 exact wpAny_BinOp (binT ha hb I h fun v u s2 x y H2 I2 rx ry q=>ho pins s2 σ H2 x y v u Q I2 rx ry q)
theorem pe_un {op:UnaryOp}{r:V->Hp->VK->Prop}(ho:UnR X (unaryOp op) r)(ha:PE X a ta):PE X (.UnaryOp op a pos) (tUn r ta):=by
 intro pins s σ H Q I h
 exact UnaryOp_ (thn (ha pins s σ H _ I h) fun v s1 ⟨x,H1,I1,r1,q1⟩=>ho pins s1 σ H1 x v Q I1 r1 q1)
theorem opI {f:Value->Value->Sem Value}{C:Int->Int->Prop}{g:Int->Int->Int}
  (rule:∀ (i j:Int)(t u:Tok)(s:Shared)(Q:Value->Shared->Prop)(E:Value->Shared->Prop),C i j->Q (.int (g i j) s.toks) { s with toks:=s.toks+1 }->wpAny (model X.prog X.w) X.A (f (.int i t) (.int j u)) Q E s) :
  OpR X f (rI C fun i j=>.int (g i j)):=by
 intro pins s σ H x y v u Q I rx ry h
 obtain ⟨i,j,rfl,rfl,hc,q⟩:=h
 obtain ⟨t,rfl⟩:=rx
 obtain ⟨t',rfl⟩:=ry
 exact rule i j t t' s _ _ hc ⟨.int (g i j),H,I.tok _,⟨_,rfl⟩,q⟩
theorem opI0 {f:Value->Value->Sem Value}{g:Int->Int->Int}
  (rule:∀ (i j:Int)(t u:Tok)(s:Shared)(Q:Value->Shared->Prop)(E:Value->Shared->Prop),Q (.int (g i j) s.toks) { s with toks:=s.toks+1 }->wpAny (model X.prog X.w) X.A (f (.int i t) (.int j u)) Q E s) :
  OpR X f (rI0 fun i j=>.int (g i j)):=by
 intro pins s σ H x y v u Q I rx ry h
 obtain ⟨i,j,rfl,rfl,q⟩:=h
 obtain ⟨t,rfl⟩:=rx
 obtain ⟨t',rfl⟩:=ry
 exact rule i j t t' s _ _ ⟨.int (g i j),H,I.tok _,⟨_,rfl⟩,q⟩
theorem opB0 {f:Value->Value->Sem Value}{g:Int->Int->Bool}
  (rule:∀ (i j:Int)(t u:Tok)(s:Shared)(Q:Value->Shared->Prop)(E:Value->Shared->Prop),Q (.bool (g i j)) s->wpAny (model X.prog X.w) X.A (f (.int i t) (.int j u)) Q E s) :
  OpR X f (rI0 fun i j=>.bl (g i j)):=by
 intro pins s σ H x y v u Q I rx ry h
 obtain ⟨i,j,rfl,rfl,q⟩:=h
 obtain ⟨t,rfl⟩:=rx
 obtain ⟨t',rfl⟩:=ry
 exact rule i j t t' s _ _ ⟨.bl (g i j),H,I,rfl,q⟩
noncomputable def CPow (i j:Int):Prop:=0<=j/\j<=1000000/\i.natAbs<2 ^ 64
noncomputable def CMul (i j:Int):Prop:=(-(2 ^ 64)<i/\i<2 ^ 64)\/(-(2 ^ 64)<j/\j<2 ^ 64)
theorem CMul.ok {i j:Int}(h:CMul i j):IntMulOk i j:=by
 rcases h with ⟨h1,h2⟩|⟨h1,h2⟩
 ·exact .of_left (intBits_le_64 h1 h2)
 ·exact .of_right (intBits_le_64 h1 h2)
theorem op_add:OpR X (binaryOp .Add) (rI0 fun i j=>.int (i+j)):=opI0 fun _ _ _ _ _ _ _ q=>add_int q
theorem op_sub:OpR X (binaryOp .Sub) (rI0 fun i j=>.int (i - j)):=opI0 fun _ _ _ _ _ _ _ q=>sub_int q
theorem op_mod:OpR X (binaryOp .Mod) (rI (fun _ j=>0<j) fun i j=>.int (i % j)):=opI fun i j _ _ _ _ _ hc q=>by
 have h1:(0:Int)<j:=hc
 exact mod_int' (by omega) (by rw [Int.fmod_eq_emod_of_nonneg i (by omega)];exact q)
theorem unI {f:Value->Sem Value}{g:Int->Int}
  (rule:∀ (i:Int)(t:Tok)(s:Shared)(Q:Value->Shared->Prop)(E:Value->Shared->Prop),Q (.int (g i) s.toks) { s with toks:=s.toks+1 }->wpAny (model X.prog X.w) X.A (f (.int i t)) Q E s) :
  UnR X f (rU fun i=>.int (g i)):=by
 intro pins s σ H x v Q I rx h
 obtain ⟨i,rfl,q⟩:=h
 obtain ⟨t,rfl⟩:=rx
 exact rule i t s _ _ ⟨.int (g i),H,I.tok _,⟨_,rfl⟩,q⟩
theorem un_neg:UnR X (unaryOp .USub) (rU fun i=>.int (-i)):=unI fun _ _ _ _ _ q=>neg_int q
end
section
variable {X:Cx}{a b c:Expr}{ta tb tc:TE}{pos:Pos}
theorem fin_bl {pins:List (Addr×Obj)}{σ:St}{H:Hp}{s:Shared}{Q:VK}{k k':Bool}(I:Inv X pins σ H s)(q:Q (.bl k) H)(e:k=k'):EP X pins σ Q (.bool k') s:=by
 subst e
 exact ⟨.bl k,H,I,rfl,q⟩
theorem op_lt:OpR X (compareOp .Lt) (rI0 fun i j=>.bl (decide (i<j))):=opB0 fun _ _ _ _ _ _ _ q=>lt_int q
theorem op_le:OpR X (compareOp .LtE) (rI0 fun i j=>.bl (decide (i<=j))):=opB0 fun _ _ _ _ _ _ _ q=>le_int q
theorem op_gt:OpR X (compareOp .Gt) (rI0 fun i j=>.bl (decide (j<i))):=opB0 fun _ _ _ _ _ _ _ q=>gt_int q
theorem op_ge:OpR X (compareOp .GtE) (rI0 fun i j=>.bl (decide (j<=i))):=opB0 fun _ _ _ _ _ _ _ q=>ge_int q
theorem op_isN:OpR X (compareOp .Is) (fun x y H Q=>y=.non/\Q (.bl (decide (x=.non))) H):=by
 intro pins s σ H x y v u Q I rx ry h
 obtain ⟨rfl,q⟩:=h
 cases ry
 refine is_none_gen (fin_bl I q ?_)
 cases x<;>first
  | (cases rx;rfl)
  | (obtain ⟨t,rfl⟩:=rx;rfl)
theorem op_notN:OpR X (compareOp .IsNot) (fun x y H Q=>y=.non/\Q (.bl (!decide (x=.non))) H):=by
 intro pins s σ H x y v u Q I rx ry h
 obtain ⟨rfl,q⟩:=h
 cases ry
 refine isnot_none_gen (fin_bl I q ?_)
 cases x<;>first
  | (cases rx;rfl)
  | (obtain ⟨t,rfl⟩:=rx;rfl)
theorem OpR.or {f:Value->Value->Sem Value}{r r':R2}(h:OpR X f r)(h':OpR X f r'):OpR X f (fun x y H Q=>r x y H Q\/r' x y H Q):=by
 intro pins s σ H x y v u Q I rx ry q
 rcases q with q|q
 ·exact h pins s σ H x y v u Q I rx ry q
 ·exact h' pins s σ H x y v u Q I rx ry q
theorem nomark (b:Expr){op:CmpOp}(h:op≠.In:=by decide)(h2:op≠.NotIn:=by decide):behindInMarks op b=false:=by
 have e1:(op == CmpOp.In)=false:=by cases op<;>first|rfl|exact absurd rfl h
 have e2:(op == CmpOp.NotIn)=false:=by cases op<;>first|rfl|exact absurd rfl h2
 cases b<;>simp [behindInMarks,e1,e2]
theorem pe_cmpR {op:CmpOp}{r:R2}(ho:OpR X (compareOp op) r)(ha:PE X a ta)(hb:PE X b tb)(hm:behindInMarks op b=false):PE X (.Compare a [op] [b] pos) (tOp r ta tb):=by
 intro pins s σ H Q I h
 exact wpAny_Compare1 (binT ha hb I h fun v u s2 x y H2 I2 rx ry q=>ho pins s2 σ H2 x y v u Q I2 rx ry q) hm
noncomputable def tTest (t:TE):TT:=fun σ H Q=>t σ H fun x H'=>∃ k,x=.bl k/\Q k H'
theorem pt_cmpR {op:CmpOp}{r:R2}(ho:OpR X (compareOp op) r)(ha:PE X a ta)(hb:PE X b tb)(hm:behindInMarks op b=false):PT X (.Compare a [op] [b] pos) (tTest (tOp r ta tb)):=by
 intro pins s σ H Q I h
 refine wpAny_isTrue_Compare1 (thn (ha pins s σ H _ I h) fun v s1 ⟨x,H1,I1,r1,q1⟩=>thn (hb pins s1 σ H1 _ I1 q1) fun u s2 ⟨y,H2,I2,r2,q2⟩=>
  thn (ho pins s2 σ H2 x y v u _ I2 r1 r2 q2) fun c s3 ⟨z,H3,I3,r3,k,e,q3⟩=>?_) hm
 subst e
 cases r3
 exact wpAny_truthy_bool ⟨H3,I3,q3⟩
noncomputable def TruV (K:PySem.W.Frag)(x:V)(H:Hp)(k:Bool):Prop:=
 match x with
 | .non=>k=false
 | .bl b=>k=b
 | .int i=>k=(i != 0)
 | .str y=>y.length<=sizeLine/\k=((y.length:Int) != 0)
 | .byt y=>y.size<=sizeLine/\k=((y.size:Int) != 0)
 | .ref p=>(∃ xs,SqL K H p xs/\k = !xs.isEmpty)\/(∃ xs,SqT K H p xs/\k = !xs.isEmpty)\/∃ kvs,H p=some (.dK kvs)/\k = !kvs.isEmpty
 | _=>False
theorem isEmpty_kv {κ:Type}{kvs:List (κ×V)}{vs:List (κ×Value)}(r:KV kvs vs):(!vs.isEmpty) = !kvs.isEmpty:=by
 cases r<;>rfl
theorem isEmpty_of {xs:List V}{its:List Value}(r:Vals xs its):(!its.toArray.isEmpty) = !xs.isEmpty:=by
 cases r<;>simp
theorem line63:(sizeLine:Nat)<2 ^ 63:=by rw [sizeLine_eq];decide
theorem tru_ok:TruR X (fun x H Q=>∃ k,TruV X.K x H k/\Q k H):=by
 intro pins s σ H x v Q I rx h
 obtain ⟨k,e,q⟩:=h
 have hl:=line63
 have hs:sizeLine=16777216:=sizeLine_eq
 cases x with
 | non=>
  cases rx
  have e':k=false:=e
  subst e'
  exact truthy_none ⟨H,I,q⟩
 | bl b=>
  cases rx
  have e':k=b:=e
  subst e'
  exact wpAny_truthy_bool ⟨H,I,q⟩
 | int i=>
  obtain ⟨t,rfl⟩:=rx
  have e':k=(i != 0):=e
  subst e'
  exact PySem.P.truthy_int ⟨H,I,q⟩
 | str y=>
  obtain ⟨t,rfl⟩:=rx
  obtain ⟨hy,e'⟩:y.length<=sizeLine/\k=((y.length:Int) != 0):=e
  subst e'
  exact PySem.P.truthy_str (by omega) ⟨H,I.tok _,q⟩
 | byt y=>
  obtain ⟨t,rfl⟩:=rx
  obtain ⟨hy,e'⟩:y.size<=sizeLine/\k=((y.size:Int) != 0):=e
  subst e'
  exact PySem.W.truthy_bytes (by omega) ⟨H,I.tok _,q⟩
 | ref p=>
  cases rx
  have e':(∃ xs,SqL X.K H p xs/\k = !xs.isEmpty)\/(∃ xs,SqT X.K H p xs/\k = !xs.isEmpty)\/∃ kvs,H p=some (.dK kvs)/\k = !kvs.isEmpty:=e
  rcases e' with ⟨xs,hx,e'⟩|⟨xs,hx,e'⟩|⟨kvs,hx,e'⟩
  ·subst e'
   obtain ⟨its,r,pl,hz⟩:=I.list hx
   have hlen:=r.length
   exact wpAny_truthy_list pl.isList (by simp only [List.size_toArray];omega) ⟨H,I.tok _,by rw [isEmpty_of r];exact q⟩
  ·subst e'
   obtain ⟨its,r,pl,hz⟩:=I.tuple hx
   have hlen:=r.length
   exact truthy_tuple pl (by simp only [List.size_toArray];omega) ⟨H,I.tok _,by rw [isEmpty_of r];exact q⟩
  ·subst e'
   obtain ⟨hz,hS,vs,r,m⟩:kvs.length<=sizeLine/\(p == sysModules)=false/\∃ vs,KV kvs vs/\s.heap.DictOf (mixKind X.prog X.w) p vs:=I.hok p _ hx
   have hlen:kvs.length=vs.length:=Paired.length r
   exact wpAny_truthy_dict hS m (by omega) ⟨H,I.tok _,by rw [isEmpty_kv r];exact q⟩
 | _=>exact (show False from e).elim
theorem pt_truth (ha:PE X a ta)(he:∀ whole,isTrue a X.env whole=(do let v <- whole;standAt a.pos;holding [v] (truthy v))) :
  PT X a (fun σ H Q=>ta σ H fun x H'=>∃ k,TruV X.K x H' k/\Q k H'):=by
 intro pins s σ H Q I h
 exact isTrue_plain (thn (ha pins s σ H _ I h) fun v s1 ⟨x,H1,I1,r1,q1⟩=>tru_ok pins s1 σ H1 x v Q I1 r1 q1) (he _)
theorem op_add_str:OpR X (binaryOp .Add) (fun x y H Q=>∃ i j,x=.str i/\y=.str j/\i.length+j.length<=sizeLine/\Q (.str (i++j)) H):=by
 intro pins s σ H x y v u Q I rx ry h
 obtain ⟨i,j,rfl,rfl,hz,q⟩:=h
 obtain ⟨t,rfl⟩:=rx
 obtain ⟨t',rfl⟩:=ry
 exact add_str (fun t' tk=>⟨.str (i++j),H,I.tok _,⟨_,rfl⟩,q⟩) hz
theorem vals1 {x:V}{us:List Value}(r:Vals [x] us):∃ u,us=[u]/\RelV x u:=by
 cases r with
 | cons r1 r2=>cases r2;exact ⟨_,rfl,r1⟩
theorem vals2 {x y:V}{us:List Value}(r:Vals [x,y] us):∃ u w',us=[u,w']/\RelV x u/\RelV y w':=by
 cases r with
 | cons r1 r2=>
  cases r2 with
  | cons r3 r4=>cases r4;exact ⟨_,_,rfl,r1,r3⟩
theorem call_max2 (hc:X.calm=true):CallR X (.builtin "max") (fun xs H Q=>∃ i j,xs=[.int i,.int j]/\Q (.int (if j>i then j else i)) H):=by
 intro pins s σ H xs us Q I r h
 obtain ⟨i,j,rfl,q⟩:=h
 obtain ⟨u,w',rfl,⟨t,rfl⟩,⟨t',rfl⟩⟩:=vals2 r
 refine max_two_ints (I.ok.hd hc) fun h' tk k=>⟨_,H,I.kept k,?_,q⟩
 by_cases hj:j>i
 ·rw [if_pos hj,if_pos hj];exact ⟨_,rfl⟩
 ·rw [if_neg hj,if_neg hj];exact ⟨_,rfl⟩
theorem call_min2 (hc:X.calm=true):CallR X (.builtin "min") (fun xs H Q=>∃ i j,xs=[.int i,.int j]/\Q (.int (if j<i then j else i)) H):=by
 intro pins s σ H xs us Q I r h
 obtain ⟨i,j,rfl,q⟩:=h
 obtain ⟨u,w',rfl,⟨t,rfl⟩,⟨t',rfl⟩⟩:=vals2 r
 refine min_two_ints (I.ok.hd hc) fun h' tk k=>⟨_,H,I.kept k,?_,q⟩
 by_cases hj:j<i
 ·rw [if_pos hj,if_pos hj];exact ⟨_,rfl⟩
 ·rw [if_neg hj,if_neg hj];exact ⟨_,rfl⟩
end
end L2
namespace L2
open PySem PySem.Spec PyProof.Rows
structure ObjM (h:Heap)(x dx C:Addr)(mA:Str->Option Value):Prop where
 obj:h.get? x=some (PySem.W.instObj C dx)
 ns:h.Ns1 dx mA
 ne:dx≠x
section
variable {prog:Program}{w:World}{A:Around}{E:Value->Shared->Prop}{s:Shared}{K:PySem.W.Frag}{x dx C f:Addr}{mA:Str->Option Value}{name:Str}{v:Value}
end
section
variable {P:Program}{w:World}{H H':Hp}{h h':Heap}{a C dx:Addr}{fs fs':List (Str×V)}
end
structure Cls (K:PySem.W.Frag)(C:Addr):Prop where
 pg:PySem.W.plainGet K C Str.empty=true
 hd:PySem.W.hasDictIn K C=true
 po:PySem.W.plainOver K C=true
 sa:PySem.W.findIn K (.ref C) "__setattr__" = some (some (.builtin "object.__setattr__"))
theorem Cls.get {K:PySem.W.Frag}{C:Addr}(c:Cls K C)(f:Str):PySem.W.plainGet K C f=true:=c.pg
structure Con (K:PySem.W.Frag)(C:Addr)(f:Str)(v:V)(u:Value):Prop where
 at_:PySem.W.findIn K (.ref C) f=some (some u)
 rel:RelV v u
 get:PySem.W.specialIn K u "__get__" = some none
 cp:PySem.W.copiedNames.contains f=false
structure Meth (K:PySem.W.Frag)(C:Addr)(m:Str)(f:Addr):Prop where
 at_:PySem.W.findIn K (.ref C) m=some (some (.ref f))
 fn:PySem.W.isFn K (.ref f)=true
 kp:PySem.W.keepIn K (.ref f)=true
section
variable {X:Cx}{pins:List (Addr×Obj)}{σ:St}{H:Hp}{s:Shared}{a C dx:Addr}{fs:List (Str×V)}{f:Str}{v:V}{A:Around}{E:Value->Shared->Prop}
end
section
variable {X:Cx}{o e value:Expr}{f:Str}{pos pos' tpos:Pos}{ta tv:TE}
end
section
variable {X:Cx}{pins:List (Addr×Obj)}{σ:St}{H:Hp}{s:Shared}{A:Around}{E:Value->Shared->Prop}{Q:Value->Shared->Prop}{c:Value}{b:Bool}
inductive TyOf (K:PySem.W.Frag)(H:Hp):V->Value->Prop where
 | non:TyOf K H .non (.type "NoneType")
 | bl (x:Bool):TyOf K H (.bl x) (.type "bool")
 | int (i:Int):TyOf K H (.int i) (.type "int")
 | str (x:Str):TyOf K H (.str x) (.type "str")
 | flt (x:UInt64):TyOf K H (.flt x) (.type "float")
 | lst {a:Addr}{xs:List V}(e:H a=some (.lst xs)):TyOf K H (.ref a) (.type "list")
 | frz {a:Addr}{o:Obj}{xs:List V}(e:H a=some (.frz o (.lst xs))):TyOf K H (.ref a) (.type "list")
 | tup {a:Addr}{xs:List V}(e:H a=some (.tup xs)):TyOf K H (.ref a) (.type "tuple")
 | dK {a:Addr}{kvs:List (Key×V)}(e:H a=some (.dK kvs)):TyOf K H (.ref a) (.type "dict")
 | dT {a:Addr}{kvs:List (List Key×V)}(e:H a=some (.dT kvs)):TyOf K H (.ref a) (.type "dict")
 | ins {a C dx:Addr}{fs:List (Str×V)}(e:H a=some (.ins C dx fs))(cl:Cls K C)(ha:PySem.W.findIn K (.ref C) "__class__" = some (some (.builtin "object.__class__")))
   (hn:PySem.W.specialIn K (.builtin "object.__class__") "__get__" = some (some (.builtin "getset_descriptor.__get__"))) (htk:PySem.W.takesIn K (.builtin "object.__class__")=some true)
   (hm:PySem.W.mroIn K C (.type "object")=some true):TyOf K H (.ref a) (.ref C)
end
end L2
namespace L2
open PySem PySem.Spec PyProof.Rows
structure Room (k:Nat)(A:Around):Prop where
 hd:A.handled=none
 dp:A.depth+3 * k+5<recursionLimit
 un:A.units+16 * k+200<cLine
theorem Room.mono {j k:Nat}{A:Around}(r:Room k A)(h:j<=k):Room j A:=⟨r.hd,by have:=r.dp;omega,by have:=r.un;omega⟩
theorem Room.deeper {k:Nat}{A:Around}(r:Room (k+1) A)(env:Env):Room k (A.deeper env):=
 ⟨r.hd,by have:=r.dp;show A.depth+1+3 * k+5<_;omega,by have:=r.un;show A.units+3+16 * k+200<_;omega⟩
theorem Room.depth {k:Nat}{A:Around}(r:Room k A):A.depth<recursionLimit:=by have:=r.dp;omega
theorem Room.units {k:Nat}{A:Around}(r:Room k A):A.units+64<cLine:=by have:=r.un;omega
noncomputable def tNil:TA:=fun _ H Q=>Q [] H
noncomputable def tCons (ta:TE)(tr:TA):TA:=fun σ H Q=>ta σ H fun x H1=>tr σ H1 fun xs H2=>Q (x::xs) H2
section
variable {X:Cx}{e:Expr}{es:List Expr}{te:TE}{t:TA}{pos:Pos}
theorem pa_nil:PA X [] tNil:=fun _ _ _ _ H Q I h=>Calls.spliced_nil ⟨[],H,I,.nil,h⟩
theorem pa_cons (ha:PE X e te)(hr:PA X es t)(hs:starEach (e::es) X.env=(false,eval e X.env)::starEach es X.env:=by rfl):PA X (e::es) (tCons te t):=by
 intro pos pins s σ H Q I h
 rw [hs]
 show wpAny _ _ (spliced ((false,eval e X.env)::backTo pos (starEach es X.env))) _ _ s
 refine Calls.spliced_cons (thn (ha pins s σ H _ I h) fun u s1 ⟨x,H1,I1,r1,q1⟩=>?_)
 exact thn (hr pos pins s1 σ H1 _ I1 q1) fun us s2 ⟨xs,H2,I2,r2,q2⟩=>⟨x::xs,H2,I2,.cons r1 r2,q2⟩
noncomputable def tTup (t:TA):TE:=fun σ H Q=>t σ H fun xs H1=>xs.length<=sizeLine/\∀ p,H1 p=none->Q (.ref p) (upd H1 p (.tup xs))
noncomputable def tLst (t:TA):TE:=fun σ H Q=>t σ H fun xs H1=>xs.length<=sizeLine/\∀ p,H1 p=none->Q (.ref p) (upd H1 p (.lst xs))
theorem pe_tup {x1} (h:PA X es t):PE X (.Tuple es x1 pos) (tTup t):=by
 intro pins s σ H Q I hq
 refine wpAny_Tuple_spliced (thn (h pos pins s σ H _ I hq) fun us s1 ⟨xs,H1,I1,r,z,q⟩=>⟨by rw [<- r.length];exact z,?_⟩)
 have hf:H1 s1.heap.objs.size=none:=I1.hok.fresh (Nat.le_refl _)
 refine ⟨.ref s1.heap.objs.size,upd H1 s1.heap.objs.size (.tup xs),I1.laid (t':=s1.toks) (fun b u e=>Heap.get?_push_of_some _ e) (Nat.le_refl _) ?_,rfl,q _ hf⟩
 exact ⟨z,us,r,⟨_,Heap.get?_push_size _ rfl,rfl,_,rfl,rfl⟩⟩
theorem pe_lst (h:PA X es t):PE X (.List es pos) (tLst t):=by
 intro pins s σ H Q I hq
 refine wpAny_List_spliced (thn (h pos pins s σ H _ I hq) fun us s1 ⟨xs,H1,I1,r,z,q⟩=>⟨by rw [<- r.length];exact z,?_⟩)
 have hf:H1 s1.heap.objs.size=none:=I1.hok.fresh (Nat.le_refl _)
 refine ⟨.ref s1.heap.objs.size,upd H1 s1.heap.objs.size (.lst xs),I1.laid (t':=s1.toks) (fun b u e=>Heap.get?_push_of_some _ e) (Nat.le_refl _) ?_,rfl,q _ hf⟩
 exact ⟨z,us,0,r,Heap.get?_push_size _ rfl⟩
end
noncomputable abbrev Sp:=List V->Hp->VK->XK->Prop
noncomputable abbrev CXT:=List Env->Hp->Shared->XK->Value->Shared->Prop
structure Env0 (P:Program)(w:World)(K:PySem.W.Frag)(mg:Str->Option Value)(base:Heap)(A:Around)(outer:List Env)(s:Shared)(H:Hp):Prop where
 frames:A.frames=some outer
 mod:Mod K mg base
 bs:∀ b o,base.get? b=some o->s.heap.get? b=some o/\H b=none
 bsz:base.objs.size<=s.heap.objs.size
 funs:s.heap.FunFrames base outer
 frf:∀ b∈frs outer,H b=none
 hok:HOk P w H s.heap
 bare:AllBare s.gens
noncomputable def CE (outer:List Env)(P:Program)(w:World)(H:Hp)(s:Shared)(Q:VK)(u:Value)(s':Shared):Prop:=
 ∃ v H',s'.os=s.os/\AllBare s'.gens/\Un (frs outer) [] H H' s.heap s'.heap/\HOk P w H' s'.heap/\RelV v u/\Q v H'
noncomputable def CR (CX:CXT)(outer:List Env)(P:Program)(w:World)(H:Hp)(s:Shared)(Q:VK)(E:XK)(r:Result)(s':Shared):Prop:=
 match r with
 | .ok (.ret u)=>CE outer P w H s Q u s'
 | .ok _=>False
 | .error e=>CX outer H s E e s'
structure FnOk (P:Program)(w:World)(K:PySem.W.Frag)(mg:Str->Option Value)(base:Heap)(CX:CXT)(k:Nat)(f:Addr)(fd:FuncData)(ps:List Str)(sp:Sp):Prop where
 len:∀ vs H Q E,sp vs H Q E->vs.length=ps.length
 run:∀ (A:Around)(outer:List Env)(s:Shared)(H:Hp)(args:Args)(us:List Value)(vs:List V)(Q:VK)(E:XK),Room k A->Env0 P w K mg base A outer s H->BindsTo s fd args (ps.zip us)->Vals vs us->sp vs H Q E->
  codeAny (model P w) A (.call (.ref f) args) (CR CX outer P w H s Q E) s
theorem FnOk.mono {P:Program}{w:World}{K:PySem.W.Frag}{mg:Str->Option Value}{base:Heap}{CX:CXT}{j k:Nat}{f:Addr}{fd:FuncData}{ps:List Str}{sp:Sp}(F:FnOk P w K mg base CX j f fd ps sp)(h:j<=k) :
  FnOk P w K mg base CX k f fd ps sp:=⟨F.len,fun A outer s H args us vs Q E hr=>F.run A outer s H args us vs Q E (hr.mono h)⟩
section
variable {X:Cx}{pins:List (Addr×Obj)}{σ:St}{H:Hp}{s s':Shared}
theorem Inv.env0 (I:Inv X pins σ H s):Env0 X.prog X.w X.K X.mg X.base X.A X.stack s H:=
 ⟨I.ok.frames,I.ok.mod,I.bs,Nat.le_trans I.ok.bsz I.sz,I.stack,I.stkFree,I.hok,I.bare⟩
theorem Inv.after {Q:VK}{u:Value}(I:Inv X pins σ H s)(h:CE X.stack X.prog X.w H s Q u s'):EP X pins σ Q u s':=by
 obtain ⟨v,H',os,bare,un,hok,r,q⟩:=h
 obtain ⟨hh,g,d,t,os'⟩:=s'
 obtain rfl:os'=s.os:=os
 exact ⟨v,H',I.call (h':=hh) (g':=g) (d':=d) (t':=t) (ch:=[]) un hok bare (fun b z=>absurd z (by simp)),r,q⟩
end
noncomputable def tCall (sp:Sp)(dvs:List V)(E:XK)(t:TA):TE:=fun σ H Q=>t σ H fun vs H1=>sp (vs++dvs) H1 Q E
noncomputable def Binds (K:PySem.W.Frag)(fd:FuncData)(ps:List Str)(ds:List Value):Prop:=
 ∀ (s:Shared)(us:List Value),K.In s.heap->(us++ds).length=ps.length->BindsTo s fd ⟨us,[]⟩ (ps.zip (us++ds))
theorem Binds.all {K:PySem.W.Frag}{fd:FuncData}{ps:List Str}(h:∀ us:List Value,us.length=ps.length->bindArgs fd ⟨us,[]⟩=pure (ps.zip us)):Binds K fd ps []:=fun s us _ hl=>by
 rw [List.append_nil] at hl ⊢
 exact .of_eq (h us hl)
noncomputable def Passes (CX:CXT)(X:Cx)(E:XK):Prop:=∀ (pins:List (Addr×Obj))(σ:St)(H:Hp)(s:Shared)(e:Value)(s':Shared),Inv X pins σ H s->CX X.stack H s E e s'->X.xe e s'
section
variable {X:Cx}{CX:CXT}{k:Nat}{f C:Addr}{fd:FuncData}{ps:List Str}{sp:Sp}{dvs:List V}{ds:List Value}{E:XK}{x m:Str}{p pos apos:Pos}{e o:Expr}{es:List Expr}{ta:TE}{t:TA}
theorem run_fn {pins:List (Addr×Obj)}{σ:St}{H:Hp}{s:Shared}{Q:VK}{us:List Value}{vs:List V}(F:FnOk X.prog X.w X.K X.mg X.base CX k f fd ps sp)(hr:Room k X.A)(hb:Binds X.K fd ps ds)(hd:Vals dvs ds)(hx:Passes CX X E)
  (I:Inv X pins σ H s)(r:Vals vs us)(h:sp (vs++dvs) H Q E):wpAny (model X.prog X.w) X.A (call (.ref f) us) (EP X pins σ Q) X.xe s:=by
 have r2:Vals (vs++dvs) (us++ds):=r.append hd
 have hl:(us++ds).length=ps.length:=by rw [<- r2.length];exact F.len _ _ _ _ h
 refine wpAny_call (codeAny_mono (F.run X.A X.stack s H ⟨us,[]⟩ (us++ds) (vs++dvs) Q E hr I.env0 (hb s us I.kIn hl) r2 h) fun r s' hq=>?_)
 cases r with
 | error e=>exact hx pins σ H s e s' I hq
 | ok fl=>
  cases fl with
  | ret u=>exact I.after hq
  | next=>exact False.elim hq
  | brk=>exact False.elim hq
  | cont=>exact False.elim hq
theorem pe_call (F:FnOk X.prog X.w X.K X.mg X.base CX k f fd ps sp)(hr:Room k X.A)(hg:Gl X x)(hm:X.mg x=some (.ref f))(hk:PySem.W.keepIn X.K (.ref f)=true)(hb:Binds X.K fd ps ds)(hd:Vals dvs ds)(hx:Passes CX X E)
  (ha:PA X (e::es) t)(hdb:(x == ("__debug__":Str))=false:=by decide) (he:starEach (e::es) X.env=(false,eval e X.env)::starEach es X.env:=by rfl)(hpl:(backTo pos (starEach es X.env)).any (·.1)=false:=by rfl) :
  PE X (.Call (.Name x p) (e::es) [] pos) (tCall sp dvs E t):=by
 intro pins s σ H Q I h
 refine wpAny_Call_Name_kw (ld_glob I hg hm ?_ hdb)
 refine PySem.W.callWith_K (h₀:=X.base) I.ok.mod.kin hk (thn (ha pos pins s σ H _ I h) fun us s1 ⟨vs,H1,I1,r,q⟩=>⟨I1.kIn,?_⟩) he hpl
 exact run_fn F hr hb hd hx I1 r q
theorem pe_call0 (F:FnOk X.prog X.w X.K X.mg X.base CX k f fd ps sp)(hr:Room k X.A)(hg:Gl X x)(hm:X.mg x=some (.ref f))(hk:PySem.W.keepIn X.K (.ref f)=true)(hb:Binds X.K fd ps ds)(hd:Vals dvs ds)(hx:Passes CX X E)
  (hdb:(x == ("__debug__":Str))=false:=by decide):PE X (.Call (.Name x p) [] [] pos) (tCall sp dvs E tNil):=by
 intro pins s σ H Q I h
 refine wpAny_Call_Name_kw (ld_glob I hg hm ?_ hdb)
 exact PySem.W.callWith_K0 I.kIn hk (run_fn (us:=[]) F hr hb hd hx I .nil h)
structure Mk (K:PySem.W.Frag)(C f:Addr):Prop where
 makes:PySem.W.makesIn K C=true
 init:PySem.W.findIn K (.ref C) "__init__" = some (some (.ref f))
 fn:PySem.W.isFn K (.ref f)=true
 kp:PySem.W.keepIn K (.ref C)=true
end
section
variable {X:Cx}{CX:CXT}{k:Nat}{f C:Addr}{fd:FuncData}{ps ks:List Str}{sp:Sp}{E:XK}{x m:Str}{p pos apos kpos:Pos}{e o:Expr}{es:List Expr}{kws:List Keyword}{te ta:TE}{t tk:TA}{nm:Option Str}
structure KBinds (K:PySem.W.Frag)(fd:FuncData)(ps ks:List Str)(g:List Value->List Value->List Value)(gV:List V->List V->List V):Prop where
 to:∀ (s:Shared)(us ws:List Value),K.In s.heap->(g us ws).length=ps.length->BindsTo s fd ⟨us,ks.zip ws⟩ (ps.zip (g us ws))
 rel:∀ {vs:List V}{us:List Value}{zs:List V}{ws:List Value},Vals vs us->Vals zs ws->Vals (gV vs zs) (g us ws)
variable {g:List Value->List Value->List Value}{gV:List V->List V->List V}
end
structure FnScope (N P:List Str)(sc:Scope):Prop where
 kind:sc.kind=.function
 co:sc.isCoroutine=false
 gen:sc.isGenerator=false
 nd:N.Nodup
 pre:N.take P.length=P
 par:∀ x∈P,sc.names.lookup x=some .local\/sc.names.lookup x=some .cell
 nofree:∀ y∈sc.names,y.2≠.free
theorem bindL_out {kindOf:Str->Option NameKind}{x:Str}:∀ {binds:List (Str×Value)}{m:Str->Option Value},(∀ v,(x,v)∉binds)->bindL kindOf binds m x=m x
 | [],_,_=>rfl
 | (n,v)::r,m,h=>by
  unfold bindL
  rw [bindL_out fun w hw=>h w (List.mem_cons_of_mem _ hw)]
  split
  ·have:x≠n:=by rintro rfl;exact h v List.mem_cons_self
   simp [this]
  ·rfl
theorem bindC_out {kindOf:Str->Option NameKind}{x:Str}:∀ {binds:List (Str×Value)}{m:Str->Option Value},(∀ v,(x,v)∉binds)->bindC kindOf binds m x=m x
 | [],_,_=>rfl
 | (n,v)::r,m,h=>by
  unfold bindC
  rw [bindC_out fun w hw=>h w (List.mem_cons_of_mem _ hw)]
  split
  ·rfl
  ·have:x≠n:=by rintro rfl;exact h v List.mem_cons_self
   simp [this]
theorem bindL_get {kindOf:Str->Option NameKind}{x:Str}{v:Value}:∀ {P:List Str}{vs:List Value}{i:Nat}{m:Str->Option Value},P.Nodup->P[i]? = some x->vs[i]? = some v->kindOf x=some .local->
  bindL kindOf (P.zip vs) m x=some v
 | [],_,_,_,_,h,_,_=>by simp at h
 | _::_,[],_,_,_,_,h,_=>by simp at h
 | p::P,w::vs,0,m,nd,h1,h2,hk=>by
  simp at h1 h2;subst h1;subst h2
  show bindL kindOf ((p,w)::P.zip vs) m p=_
  unfold bindL
  rw [bindL_out fun v hv=>(List.nodup_cons.mp nd).1 (List.of_mem_zip hv).1,if_pos hk]
  simp
 | p::P,w::vs,i+1,m,nd,h1,h2,hk=>by
  show bindL kindOf ((p,w)::P.zip vs) m x=_
  unfold bindL
  exact bindL_get (i:=i) (List.nodup_cons.mp nd).2 (by simpa using h1) (by simpa using h2) hk
theorem bindC_get {kindOf:Str->Option NameKind}{x:Str}{v:Value}:∀ {P:List Str}{vs:List Value}{i:Nat}{m:Str->Option Value},P.Nodup->P[i]? = some x->vs[i]? = some v->kindOf x≠some .local->
  bindC kindOf (P.zip vs) m x=some v
 | [],_,_,_,_,h,_,_=>by simp at h
 | _::_,[],_,_,_,_,h,_=>by simp at h
 | p::P,w::vs,0,m,nd,h1,h2,hk=>by
  simp at h1 h2;subst h1;subst h2
  show bindC kindOf ((p,w)::P.zip vs) m p=_
  unfold bindC
  rw [bindC_out fun v hv=>(List.nodup_cons.mp nd).1 (List.of_mem_zip hv).1,if_neg hk]
  simp
 | p::P,w::vs,i+1,m,nd,h1,h2,hk=>by
  show bindC kindOf ((p,w)::P.zip vs) m x=_
  unfold bindC
  exact bindC_get (i:=i) (List.nodup_cons.mp nd).2 (by simpa using h1) (by simpa using h2) hk
noncomputable def start (N:List Str)(vs:List V):St:=vs.map some++List.replicate (N.length - vs.length) none
noncomputable def cxOf (CX:CXT)(P:Program)(w:World)(K:PySem.W.Frag)(mg:Str->Option Value)(base:Heap)(N:List Str)(qual:Str)(scope:Scope)(f:Addr)(cd:Value)(A:Around)(outer:List Env)(s:Shared)(H:Hp)(E:XK):Cx where
 prog:=P
 w:=w
 K:=K
 mg:=mg
 base:=base
 A:=A.deeper (envOfC qual scope s.heap.objs.size f cd)
 N:=N
 s₀:=s
 H₀:=H
 env:=envOfC qual scope s.heap.objs.size f cd
 outer:=outer
 stack:=envOfC qual scope s.heap.objs.size f cd::outer
 ex:=[]
 calm:=true
 fn:=fun _=>true
 pn:=[]
 xe:=fun e s'=>wpAny (model P w) (A.deeper (envOfC qual scope s.heap.objs.size f cd)) (leaving (envOfC qual scope s.heap.objs.size f cd) e) (fun _ s''=>CX outer H s E e s'') (fun e' s''=>CX outer H s E e' s'') s'
theorem cell_has {sc:Scope}{n:Nat}{x:Str}(h:sc.names.lookup x=some .cell):∃ c,(cellsFrom n sc.names []).lookup x=some c:=by
 have q:=PySem.W.cellsFrom_some sc.names n [] (.inl h)
 exact Option.isSome_iff_exists.mp q
theorem inv_start {CX:CXT}{P:Program}{w:World}{K:PySem.W.Frag}{mg:Str->Option Value}{base:Heap}{N ps:List Str}{qual:Str}{scope:Scope}{f:Addr}{cd:Value}{A:Around}{outer:List Env}{s s1:Shared}{H:Hp}{E:XK}{us:List Value}{vs:List V}
  (S:FnScope N ps scope)(hd:A.handled=none)(e0:Env0 P w K mg base A outer s H)(hl:vs.length=ps.length)(r:Vals vs us)
  (x:InCallC s s.heap.objs.size (bindL (envOfC qual scope s.heap.objs.size f cd).kindOf (ps.zip us) fun _=>none) (cellsFrom (s.heap.objs.size+1) scope.names []) (bindC (envOfC qual scope s.heap.objs.size f cd).kindOf (ps.zip us) fun _=>none) s1) :
  Inv (cxOf CX P w K mg base N qual scope f cd A outer s H E) [] (start N vs) H s1:=by
 have hpl:ps.length<=N.length:=by have:=congrArg List.length S.pre;rw [List.length_take] at this;omega
 obtain ⟨h1,tk,rfl,hk⟩:=x.done
 have noA:∀ b:Addr,b∉(cxOf CX P w K mg base N qual scope f cd A outer s H E).ex:=fun b z=>absurd (show b∈([]:List Addr) from z) (by simp)
 refine ⟨⟨e0.mod,S.kind,rfl,rfl,Nat.le_refl _,fun y z c h1 h2=>?_,fun y hy=>?_,fun y c _ h=>?_,fun _=>hd,Around.frames_deeper e0.frames,.inr ⟨rfl,rfl⟩,fun b z=>absurd z (noA b),e0.bs,e0.bsz,fun b _ _=>noA b,fun b z=>absurd z (noA b),e0.funs,e0.frf⟩,
  rfl,e0.bare,Un.kept hk,⟨_,x.toInCall.ns,fun i y v h1 h2 h3=>?_⟩,fun y c h=>⟨_,x.cell y c h⟩,e0.hok.fresh (Nat.le_refl _),fun y c h=>?_,fun p hp=>absurd (show p∈([]:List (Addr×Obj)) from hp) (by simp),e0.hok.kept hk,?_⟩
 ·exact name_of_addr x.apart (PySem.mem_of_lookup h1) (PySem.mem_of_lookup h2)
 ·have hy:scope.names.lookup y=some .cell\/scope.names.lookup y=some .free:=hy
  rcases hy with hy|hy
  ·exact cell_has hy
  ·exact absurd rfl (S.nofree _ (PySem.mem_of_lookup hy))
 ·exact Nat.le_of_lt (x.above y c (PySem.mem_of_lookup h))
 ·have hi:i<vs.length:=by
   unfold start at h2
   by_cases hi:i<vs.length
   ·exact hi
   ·rw [List.getElem?_append_right (by simpa using hi)] at h2
    rw [List.getElem?_replicate] at h2
    split at h2<;>cases h2
  have ha:vs[i]? = some v:=by
   unfold start at h2
   rw [List.getElem?_append_left (by simpa using hi),List.getElem?_map] at h2
   cases e:vs[i]? with
   | none=>rw [e] at h2;cases h2
   | some a=>rw [e] at h2;cases h2;rfl
  obtain ⟨u,hu,rv⟩:=r.get ha
  have hp:ps[i]? = some y:=by
   rw [<- S.pre,List.getElem?_take_of_lt (by omega)];exact h1
  have ndP:ps.Nodup:=by rw [<- S.pre];exact S.nd.sublist (List.take_sublist _ _)
  refine ⟨u,rv,?_⟩
  rcases S.par y (List.mem_of_getElem? hp) with k|k
  ·exact .inl ⟨k,bindL_get ndP hp hu k⟩
  ·obtain ⟨c,e⟩:=cell_has (n:=s.heap.objs.size+1) k
   refine .inr ⟨.inl k,c,e,?_⟩
   have q:=x.cell y c e
   rw [bindC_get ndP hp hu (by show scope.names.lookup y≠_;rw [k];decide)] at q
   exact q
 ·exact e0.hok.fresh (Nat.le_of_lt (x.above y c (PySem.mem_of_lookup h)))
 ·unfold start
  show _=N.length
  rw [List.length_append,List.length_map,List.length_replicate]
  omega
theorem fn_of {CX:CXT}{P:Program}{w:World}{K:PySem.W.Frag}{mg:Str->Option Value}{base:Heap}{k:Nat}{f:Addr}{name qual:Str}{params:Arguments}{body:List Stmt}{scope:Scope}{dV kV doc pm cdv ct oc:Value}{an od:Option Addr}
  {osl:Array (Option Value)}{N ps:List Str}{sp:Sp}(lk:K.lookup f=some ⟨oc,od,.func (PySem.W.fnOf name qual params body scope dV kV doc pm an cdv ct),osl⟩)(hcd:PySem.W.codeIn K cdv qual=true)(S:FnScope N ps scope)
  (len:∀ vs H Q E,sp vs H Q E->vs.length=ps.length)
  (hbody:∀ (A:Around)(outer:List Env)(s:Shared)(H:Hp)(vs:List V)(Q:VK)(E:XK),Room k (A.deeper (envOfC qual scope s.heap.objs.size f cdv))->sp vs H Q E->
   ∃ t,PSs (cxOf CX P w K mg base N qual scope f cdv A outer s H E) body t/\t { nx:=fun _ H'=>Q .non H',rt:=Q } (start N vs) H) :
  FnOk P w K mg base CX (k+1) f (PySem.W.fnOf name qual params body scope dV kV doc pm an cdv ct) ps sp:=by
 refine ⟨len,fun A outer s H args us vs Q E hr e0 hb r hsp=>?_⟩
 have hl:=len _ _ _ _ hsp
 have KX:K.In s.heap:=e0.mod.kin.keeps fun b o e=>(e0.bs b o e).1
 have lim:s.heap.NoLimit:=e0.mod.nolimit.keeps fun b o e=>(e0.bs b o e).1
 have hkind:∀ y∈ps.zip us,scope.names.lookup y.1=some .local\/(scope.names.lookup y.1=some .cell/\((cellsFrom (s.heap.objs.size+1) scope.names []).lookup y.1).isSome=true):=fun ⟨n,v⟩ hy=>by
  rcases S.par n (List.of_mem_zip hy).1 with q|q
  ·exact .inl q
  ·exact .inr ⟨q,PySem.W.cellsFrom_some _ _ _ (.inl q)⟩
 refine codeAny_call_function hr.depth (KX _ _ lk) rfl S.co S.gen rfl (PySem.W.codeRec_of KX hcd) (hb _ _ _ _ ?_)
 refine wpAny_newFunctionEnv_cells S.kind hkind fun env he s1 x=>?_
 subst he
 refine ⟨lim.keeps x.toInCall.keep,codeAny_func ?_⟩
 obtain ⟨t,ht,hq⟩:=hbody A outer s H vs Q E (hr.deeper _) hsp
 have I:Inv (cxOf CX P w K mg base N qual scope f cdv A outer s H E) [] (start N vs) H s1:=inv_start S hr.hd e0 hl r x
 refine wpAny_mono (ht [] s1 (start N vs) H _ I hq) (fun fl s' hs=>?_) fun e s' hs=>hs
 have fin:∀ {σ':St}{H':Hp}{v:V}{u:Value},Inv (cxOf CX P w K mg base N qual scope f cdv A outer s H E) [] σ' H' s'->RelV v u->Q v H'->CE outer P w H s Q u s':=
  fun {σ' H' v u} J rv q=>⟨v,H',J.os,J.bare,J.base,J.hok,rv,q⟩
 cases fl with
 | ret u=>
  obtain ⟨v,σ',H',J,rv,q⟩:=hs
  exact fin J rv q
 | next=>
  obtain ⟨σ',H',J,q⟩:=hs
  exact fin (v:=V.non) (u:=Value.none) J rfl q
 | brk=>
  obtain ⟨_,_,_,q⟩:=hs
  exact False.elim q
 | cont=>
  obtain ⟨_,_,_,q⟩:=hs
  exact False.elim q
end L2
namespace L2
open PySem PySem.Spec PyProof.Rows
section
variable {X:Cx}{x:Str}{p pos:Pos}{e:Expr}{es:List Expr}{t:TA}{id T:String}{r:List V->Hp->VK->Prop}
noncomputable def tCB (r:List V->Hp->VK->Prop)(t:TA):TE:=fun σ H Q=>t σ H fun vs H1=>r vs H1 Q
theorem pe_callB (hc:CallR X (.builtin id) r)(hg:Gl X x)(hm:X.mg x=none)(hv:bootBuiltins x=some (.builtin id))(ha:PA X (e::es) t)(hn:x ≠ "__name__":=by decide) (hdb:(x == ("__debug__":Str))=false:=by decide)
  (he:starEach (e::es) X.env=(false,eval e X.env)::starEach es X.env:=by rfl)(hpl:(backTo pos (starEach es X.env)).any (·.1)=false:=by rfl):PE X (.Call (.Name x p) (e::es) [] pos) (tCB r t):=by
 intro pins s σ H Q I h
 refine wpAny_Call_Name_kw (ld_blt I hg hm hv ?_ hn hdb)
 exact PyProof.Rows.callWith_builtin1 (thn (ha pos pins s σ H _ I h) fun us s1 ⟨vs,H1,I1,r1,q1⟩=>hc pins s1 σ H1 vs us Q I1 r1 q1) he hpl
theorem pe_callTy (hc:CallR X (.type T) r)(hg:Gl X x)(hm:X.mg x=none)(hv:bootBuiltins x=some (.type T))(ha:PA X (e::es) t)(hn:x ≠ "__name__":=by decide) (hdb:(x == ("__debug__":Str))=false:=by decide)
  (he:starEach (e::es) X.env=(false,eval e X.env)::starEach es X.env:=by rfl)(hpl:(backTo pos (starEach es X.env)).any (·.1)=false:=by rfl):PE X (.Call (.Name x p) (e::es) [] pos) (tCB r t):=by
 intro pins s σ H Q I h
 refine wpAny_Call_Name_kw (ld_blt I hg hm hv ?_ hn hdb)
 exact PyProof.Rows.callWith_type1 (thn (ha pos pins s σ H _ I h) fun us s1 ⟨vs,H1,I1,r1,q1⟩=>hc pins s1 σ H1 vs us Q I1 r1 q1) he hpl
end
end L2
namespace L2
open PySem PySem.Spec PyProof.Rows
section
variable {κ:Type} [DecidableEq κ]
noncomputable def valV (kvs:List (κ×V))(k:κ):Option V:=(kvs.find? fun kv=>decide (kv.1=k)).map (·.2)
noncomputable def putK (kvs:List (κ×V))(k:κ)(v:V):List (κ×V):=
 if (kvs.any fun kv=>decide (kv.1=k))=true then kvs.map (fun kv=>if kv.1=k then (kv.1,v) else kv) else kvs++[(k,v)]
noncomputable def dropK (kvs:List (κ×V))(k:κ):List (κ×V):=kvs.filter fun kv=>decide (kv.1≠k)
theorem valV_pos {p:κ×V}{r:List (κ×V)}{k:κ}(e:p.1=k):valV (p::r) k=some p.2:=by simp [valV,List.find?_cons,e]
theorem valV_neg {p:κ×V}{r:List (κ×V)}{k:κ}(e:¬ p.1=k):valV (p::r) k=valV r k:=by simp [valV,List.find?_cons,e]
theorem RelO.getD {o:Option V}{u:Option Value}{d:V}{d':Value}(r:RelO o u)(rd:RelV d d'):RelV (o.getD d) (u.getD d'):=by
 cases o with
 | none=>cases u with
  | none=>exact rd
  | some _=>exact (show False from r).elim
 | some _=>cases u with
  | none=>exact (show False from r).elim
  | some _=>exact r
theorem KV.val {kvs:List (κ×V)}{vs:List (κ×Value)}(r:KV kvs vs)(k:κ):RelO (valV kvs k) (valueAt vs k):=by
 unfold KV at r
 induction r with
 | nil=>exact True.intro
 | @cons p q ps qs h t ih=>
  obtain ⟨h1,h2⟩:=h
  by_cases e:p.1=k
  ·have e':q.1=k:=h1.symm.trans e
   have b:valueAt (q::qs) k=some q.2:=by simp [valueAt,List.find?_cons,e']
   rw [valV_pos e,b];exact h2
  ·have e':¬ q.1=k:=fun z=>e (h1.trans z)
   have b:valueAt (q::qs) k=valueAt qs k:=by simp [valueAt,List.find?_cons,e']
   rw [valV_neg e,b];exact ih
theorem KV.any {kvs:List (κ×V)}{vs:List (κ×Value)}(r:KV kvs vs)(k:κ):(kvs.any fun kv=>decide (kv.1=k))=vs.any fun kv=>decide (kv.1=k):=by
 unfold KV at r
 induction r with
 | nil=>rfl
 | cons h t ih=>rw [List.any_cons,List.any_cons,ih,h.1]
theorem KV.drop {kvs:List (κ×V)}{vs:List (κ×Value)}(r:KV kvs vs)(k:κ):KV (dropK kvs k) (without vs k):=by
 unfold KV at r ⊢
 unfold dropK without
 induction r with
 | nil=>exact .nil
 | @cons p q ps qs h t ih=>
  obtain ⟨h1,h2⟩:=h
  rw [List.filter_cons,List.filter_cons]
  by_cases e:p.1=k
  ·have a:¬ decide (p.1≠k)=true:=by simp [e]
   have b:¬ decide (q.1≠k)=true:=by simp [h1.symm.trans e]
   rw [if_neg a,if_neg b];exact ih
  ·have e':¬ q.1=k:=fun z=>e (h1.trans z)
   have a:decide (p.1≠k)=true:=by simp [e]
   have b:decide (q.1≠k)=true:=by simp [e']
   rw [if_pos a,if_pos b];exact .cons ⟨h1,h2⟩ ih
theorem KV.keys {kvs:List (κ×V)}{vs:List (κ×Value)}(r:KV kvs vs):kvs.map (·.1)=vs.map (·.1):=by
 unfold KV at r
 induction r with
 | nil=>rfl
 | cons h t ih=>rw [List.map_cons,List.map_cons,ih,h.1]
theorem KV.length {kvs:List (κ×V)}{vs:List (κ×Value)}(r:KV kvs vs):kvs.length=vs.length:=Paired.length r
end
noncomputable abbrev KT (H:Hp):List (List Key×V)->List (List Key×Addr×Value)->Prop:=Paired fun p q=>p.1=q.1/\H q.2.1=some (.tup (p.1.map kV))/\RelV p.2 q.2.2
theorem KT.val {H:Hp}{kvs:List (List Key×V)}{xs:List (List Key×Addr×Value)}(r:KT H kvs xs)(k:List Key):RelO (valV kvs k) ((atKey xs k).map (·.2)):=by
 induction r with
 | nil=>exact True.intro
 | @cons p q ps qs h t ih=>
  obtain ⟨h1,_,h2⟩:=h
  by_cases e:p.1=k
  ·have e':q.1=k:=h1.symm.trans e
   have b:atKey (q::qs) k=some q.2:=by simp [atKey,List.find?_cons,e']
   rw [valV_pos e,b];exact h2
  ·have e':¬ q.1=k:=fun z=>e (h1.trans z)
   have b:atKey (q::qs) k=atKey qs k:=by simp [atKey,List.find?_cons,e']
   rw [valV_neg e,b];exact ih
theorem KT.keeps {H H':Hp}{kvs:List (List Key×V)}{xs:List (List Key×Addr×Value)}(r:KT H kvs xs)(ht:∀ b ys,H b=some (.tup ys)->H' b=some (.tup ys)):KT H' kvs xs:=
 Paired.mapP r fun _ _ z=>⟨z.1,ht _ _ z.2.1,z.2.2⟩
section
variable {P:Program}{w:World}{H:Hp}{h:Heap}{a:Addr}
end
noncomputable def DGet (H:Hp)(a:Addr)(y:V)(r:Option V):Prop:=
 (∃ kvs k,Rd H a (.dK kvs)/\y=kV k/\r=valV kvs k)\/∃ kvs k b,Rd H a (.dT kvs)/\y=.ref b/\H b=some (.tup (k.map kV))/\r=valV kvs k
noncomputable def DPut (H:Hp)(a:Addr)(y v:V)(H':Hp):Prop:=
 (∃ kvs k,H a=some (.dK kvs)/\y=kV k/\kvs.length<sizeLine/\H'=upd H a (.dK (putK kvs k v))) \/
 ∃ kvs k b,H a=some (.dT kvs)/\y=.ref b/\H b=some (.tup (k.map kV))/\kvs.length<sizeLine/\H'=upd H a (.dT (putK kvs k v))
theorem DGet.k {H:Hp}{a:Addr}{kvs:List (Key×V)}{k:Key}(e:H a=some (.dK kvs)):DGet H a (kV k) (valV kvs k):=.inl ⟨kvs,k,.inl e,rfl,rfl⟩
theorem DGet.t {H:Hp}{a b:Addr}{kvs:List (List Key×V)}{k:List Key}(e:H a=some (.dT kvs))(eb:H b=some (.tup (k.map kV))):DGet H a (.ref b) (valV kvs k):=.inr ⟨kvs,k,b,.inl e,rfl,eb,rfl⟩
theorem DPut.k {H:Hp}{a:Addr}{kvs:List (Key×V)}{k:Key}{v:V}(e:H a=some (.dK kvs))(hl:kvs.length<sizeLine):DPut H a (kV k) v (upd H a (.dK (putK kvs k v))):=.inl ⟨kvs,k,e,rfl,hl,rfl⟩
theorem DPut.t {H:Hp}{a b:Addr}{kvs:List (List Key×V)}{k:List Key}{v:V}(e:H a=some (.dT kvs))(eb:H b=some (.tup (k.map kV)))(hl:kvs.length<sizeLine) :
  DPut H a (.ref b) v (upd H a (.dT (putK kvs k v))):=.inr ⟨kvs,k,b,e,rfl,eb,hl,rfl⟩
section
variable {X:Cx}{pins:List (Addr×Obj)}{σ:St}{H:Hp}{s:Shared}{a:Addr}{y v:V}{u r:Value}{o:Option V}{A:Around}{E:Value->Shared->Prop}
end
section
variable {X:Cx}{pins:List (Addr×Obj)}{σ:St}{H:Hp}{s:Shared}{a:Addr}{kvs:List (Key×V)}{k:Key}{u:Value}{A:Around}{E:Value->Shared->Prop}
end
section
variable {X:Cx}{o i e value:Expr}{pos pos' tpos:Pos}{td ty tv:TE}
end
section
variable {X:Cx}{pos:Pos}
end
noncomputable def tPairs:List (TE×TE)->St->Hp->(List (V×V)->Hp->Prop)->Prop
 | [],_,H,Q=>Q [] H
 | (tk,tv)::r,σ,H,Q=>tk σ H fun x H1=>tv σ H1 fun y H2=>tPairs r σ H2 fun ps H3=>Q ((x,y)::ps) H3
noncomputable abbrev VV:List (V×V)->List (Value×Value)->Prop:=Paired fun p q=>RelV p.1 q.1/\RelV p.2 q.2
noncomputable def PPs (X:Cx)(pos:Pos)(keys:List (Option Expr))(values:List Expr)(trs:List (TE×TE)):Prop:=
 ∀ (pins:List (Addr×Obj))(s:Shared)(σ:St)(H:Hp)(Q:List (V×V)->Hp->Prop),Inv X pins σ H s->tPairs trs σ H Q->
  wpAny (model X.prog X.w) X.A (evalPairs (pairTrees keys values X.env pos)) (fun vs s'=>∃ ps H',Inv X pins σ H' s'/\VV ps vs/\Q ps H') X.xe s
structure M1 (X:Cx)(o:Expr)(m:Str)(apos:Pos)(e:Expr)(cpos:Pos):Prop where
 base:attributeBase o m X.env (eval o X.env)=eval o X.env
 few:((backTo cpos (starEach [e] X.env)).all (fun x=>!x.1)&&(backToKw cpos (keywordEach [] X.env)).all (fun x=>x.1.isSome)
  && decide (([e]:List Expr).length+([]:List Keyword).length+(if ([]:List Keyword).isEmpty then 0 else 1)<30))=true
 line:(apos.endLine == cpos.line)=true
 trees:backTo cpos (starEach [e] X.env)=[(false,eval e X.env)]
structure M2 (X:Cx)(o:Expr)(m:Str)(apos:Pos)(e f:Expr)(cpos:Pos):Prop where
 base:attributeBase o m X.env (eval o X.env)=eval o X.env
 few:((backTo cpos (starEach [e,f] X.env)).all (fun x=>!x.1)&&(backToKw cpos (keywordEach [] X.env)).all (fun x=>x.1.isSome)
  && decide (([e,f]:List Expr).length+([]:List Keyword).length+(if ([]:List Keyword).isEmpty then 0 else 1)<30))=true
 line:(apos.endLine == cpos.line)=true
 trees:backTo cpos (starEach [e,f] X.env)=[(false,eval e X.env),(false,eval f X.env)]
noncomputable def IsD (H:Hp)(a:Addr):Prop:=(∃ kvs,Rd H a (.dK kvs))\/∃ kvs,Rd H a (.dT kvs)
section
variable {X:Cx}{pins:List (Addr×Obj)}{σ:St}{H:Hp}{s:Shared}{a:Addr}{y d:V}{u r:Value}{o:Option V}{A:Around}{E:Value->Shared->Prop}
end
section
variable {X:Cx}{o e f:Expr}{apos cpos:Pos}{td ty tx:TE}
end
section
variable {X:Cx}{pins:List (Addr×Obj)}{σ:St}{H:Hp}{s:Shared}{a:Addr}{kvs:List (Key×V)}{A:Around}{E:Value->Shared->Prop}
end
section
variable {X:Cx}{pins:List (Addr×Obj)}{σ:St}{H:Hp}{s:Shared}{a:Addr}{y:V}{u:Value}{A:Around}{E:Value->Shared->Prop}
end
end L2
namespace HT
open PySem PyProof.Rows
section
open PySem.SeqAt
open PySem.AutoSeq1 (wpAny_loadPart')
open PySem.MeetsSeq PySem.MeetsSeq2 PySem.MeetsSeq3
end
section
variable {prog:Program}{w:World}{A:Around}{E:Value->Shared->Prop}{s:Shared}
noncomputable def sIx (n d:Nat):Option Int->Nat
 | none=>d
 | some v=>if v<0 then (v+(n:Int)).toNat else min v.toNat n
theorem sIx_none (n d:Nat):sIx n d none=d:=rfl
theorem sIx_nat (n d k:Nat):sIx n d (some (k:Int))=min k n:=by
 show (if (k:Int)<0 then ((k:Int)+(n:Int)).toNat else min (k:Int).toNat n)=min k n
 rw [if_neg (by omega),Int.toNat_natCast]
end
end HT
namespace L2
open PySem PySem.Spec PyProof.Rows
noncomputable abbrev TO:=St->Hp->(Option Int->Hp->Prop)->Prop
noncomputable def PO (X:Cx)(e:Option Expr)(t:TO):Prop:=
 ∀ (pins:List (Addr×Obj))(s:Shared)(σ:St)(H:Hp)(Q:Option Int->Hp->Prop),Inv X pins σ H s->t σ H Q->
  wpAny (model X.prog X.w) X.A (evalPart e X.env) (fun u s'=>∃ o H',Inv X pins σ H' s'/\IsPart u o/\Q o H') X.xe s
noncomputable def tNoPart:TO:=fun _ H Q=>Q none H
noncomputable def tPart (t:TE):TO:=fun σ H Q=>t σ H fun x H1=>∃ i,x=.int i/\Q (some i) H1
theorem intsAre_of {ns:List Int}:∀ {us:List Value},Vals (ns.map V.int) us->IntsAre us ns:=by
 induction ns with
 | nil=>intro us r;rw [List.map_nil] at r;cases r;exact .nil
 | cons n ns ih=>
  intro us r
  rw [List.map_cons] at r
  cases r with
  | cons r1 r2=>
   obtain ⟨t,e⟩:=r1
   subst e
   exact .cons n t (ih r2)
section
variable {X:Cx}{e:Expr}{te:TE}{lo hi:Option Expr}{tl th:TO}{pos p2:Pos}
theorem po_none:PO X none tNoPart:=by
 intro pins s σ H Q I h
 rw [evalPart_none]
 exact wpAny_pure ⟨none,H,I,.none,h⟩
theorem po_some (h:PE X e te):PO X (some e) (tPart te):=by
 intro pins s σ H Q I hw
 rw [evalPart_some]
 refine thn (h pins s σ H _ I hw) fun u s1 ⟨x,H1,I1,r1,q1⟩=>?_
 obtain ⟨i,rfl,q⟩:=q1
 obtain ⟨t,rfl⟩:=r1
 exact ⟨some i,H1,I1,.int i t,q⟩
noncomputable def SlR (X:Cx)(r:V->Option Int->Option Int->Hp->VK->Prop):Prop:=
 ∀ (pins:List (Addr×Obj))(s:Shared)(σ:St)(H:Hp)(x:V)(v vl vu:Value)(lo hi:Option Int)(sl:Addr)(Q:VK),Inv X pins σ H s->RelV x v->s.heap.IsSliceOf sl vl vu .none->IsPart vl lo->IsPart vu hi->r x lo hi H Q->
  ∃ T id,typeLookup (.type T) "__getitem__" = pure (some (.builtin id))/\s.TypeIs v T/\wpAny (model X.prog X.w) X.A (getItem v (.ref sl)) (EP X pins σ Q) X.xe s
theorem SlR.or {r r':V->Option Int->Option Int->Hp->VK->Prop}(h:SlR X r)(h':SlR X r'):SlR X (fun x lo hi H Q=>r x lo hi H Q\/r' x lo hi H Q):=by
 intro pins s σ H x v vl vu lo hi sl Q I rx hs pl pu q
 rcases q with q|q
 ·exact h pins s σ H x v vl vu lo hi sl Q I rx hs pl pu q
 ·exact h' pins s σ H x v vl vu lo hi sl Q I rx hs pl pu q
noncomputable def tSl (r:V->Option Int->Option Int->Hp->VK->Prop)(te:TE)(tl th:TO):TE:=fun σ H Q=>te σ H fun x H1=>tl σ H1 fun l H2=>th σ H2 fun u H3=>r x l u H3 Q
theorem pe_slice {r:V->Option Int->Option Int->Hp->VK->Prop}(hr:SlR X r)(he:PE X e te)(hl:PO X lo tl)(hu:PO X hi th):PE X (.Subscript e (.Slice lo hi none p2) pos) (tSl r te tl th):=by
 intro pins s σ H Q I h
 refine Subscript_ (thn (he pins s σ H _ I h) fun v s1 ⟨x,H1,I1,r1,q1⟩=>?_)
 refine wpAny_Slice (thn (hl pins s1 σ H1 _ I1 q1) fun vl s2 ⟨l,H2,I2,pl,q2⟩=>thn (hu pins s2 σ H2 _ I2 q2) fun vu s3 ⟨u,H3,I3,pu,q3⟩=>?_)
 rw [evalPart_none]
 refine wpAny_pure ?_
 have I4:Inv X pins σ H3 { s3 with heap:=s3.heap.push { cls:=.type "slice",data:=.fields #[vl,vu,.none] } }:=I3.kept (t':=s3.toks) fun b ob q=>Heap.get?_push_of_some _ q
 obtain ⟨T,id,hT,ht,hg⟩:=hr pins { s3 with heap:=s3.heap.push { cls:=.type "slice",data:=.fields #[vl,vu,.none] } } σ H3 x v vl vu l u s3.heap.objs.size Q I4 r1 (Heap.IsSliceOf.new ..) pl pu q3
 show wpAny (model X.prog X.w) X.A (subscriptTail e (.Slice lo hi none p2) v (.ref s3.heap.objs.size)) (EP X pins σ Q) X.xe { s3 with heap:=s3.heap.push { cls:=.type "slice",data:=.fields #[vl,vu,.none] } }
 exact tail_any (ops:=[.ref s3.heap.objs.size,v]) ht hT hg (by with_unfolding_all rfl)
noncomputable def cutV (xs:List V)(lo hi:Option Int):List V:=(xs.drop (HT.sIx xs.length 0 lo)).take (HT.sIx xs.length xs.length hi - HT.sIx xs.length 0 lo)
theorem cutV_length (xs:List V)(lo hi:Option Int):(cutV xs lo hi).length<=xs.length:=by
 unfold cutV
 rw [List.length_take,List.length_drop]
 omega
end
end L2
namespace L2
open PySem PySem.Spec PyProof.Rows
noncomputable def ixN (n:Nat)(i:Int):Option Nat:=if 0<=i then (if i<n then some i.toNat else none) else if -(n:Int)<=i then some (i+n).toNat else none
noncomputable def atI {α:Type}(xs:List α)(i:Int):Option α:=(ixN xs.length i).bind fun j=>xs[j]?
theorem ixN_seq {n:Nat}{i:Int}{j:Nat}(h:ixN n i=some j):seqIndex? i n=some j/\j<n/\-(n:Int)<=i/\i<n:=by
 unfold ixN at h
 by_cases h0:0<=i
 ·rw [if_pos h0] at h
  by_cases h1:i<n
  ·rw [if_pos h1] at h
   have e:i.toNat=j:=Option.some.inj h
   exact ⟨by rw [seqIndex_of h0 h1,e],by omega,by omega,h1⟩
  ·rw [if_neg h1] at h;cases h
 ·rw [if_neg h0] at h
  by_cases h1:-(n:Int)<=i
  ·rw [if_pos h1] at h
   have e:(i+n).toNat=j:=Option.some.inj h
   exact ⟨by rw [seqIndex_neg (by omega) h1,e],by omega,h1,by omega⟩
  ·rw [if_neg h1] at h;cases h
theorem atI_get {α:Type}{xs:List α}{i:Int}{v:α}(h:atI xs i=some v):∃ j,seqIndex? i xs.length=some j/\xs[j]? = some v/\j<xs.length/\-(xs.length:Int)<=i/\i<xs.length:=by
 unfold atI at h
 cases e:ixN xs.length i with
 | none=>rw [e] at h;cases h
 | some j=>
  rw [e] at h
  obtain ⟨h1,h2,h3,h4⟩:=ixN_seq e
  exact ⟨j,h1,h,h2,h3,h4⟩
noncomputable def PlainIx (b:Expr):Prop:=∀ o i,subscripted b false o i=operate [o,i] (getItem o i)
noncomputable def IxR (X:Cx)(r:R2):Prop:=
 ∀ (value slice:Expr)(pins:List (Addr×Obj))(s:Shared)(σ:St)(H:Hp)(x y:V)(v u:Value)(Q:VK),Inv X pins σ H s->RelV x v->RelV y u->r x y H Q->
  subscripted slice false v u=operate [v,u] (getItem v u)->wpAny (model X.prog X.w) X.A (subscriptTail value slice v u) (EP X pins σ Q) X.xe s
noncomputable def MtR (X:Cx)(id:String)(r:V->List V->Hp->VK->Prop):Prop:=
 ∀ (pins:List (Addr×Obj))(s:Shared)(σ:St)(H:Hp)(x:V)(xs:List V)(v:Value)(us:List Value)(Q:VK),Inv X pins σ H s->RelV x v->Vals xs us->r x xs H Q->
  wpAny (model X.prog X.w) X.A (call (.builtin id) (v::us)) (EP X pins σ Q) X.xe s
section
variable {X:Cx}{a b:Expr}{ta tb:TE}{pos:Pos}
theorem IxR.or {r r':R2}(h:IxR X r)(h':IxR X r'):IxR X (fun x y H Q=>r x y H Q\/r' x y H Q):=by
 intro value slice pins s σ H x y v u Q I rx ry q hs
 rcases q with q|q
 ·exact h value slice pins s σ H x y v u Q I rx ry q hs
 ·exact h' value slice pins s σ H x y v u Q I rx ry q hs
theorem MtR.or {id:String}{r r':V->List V->Hp->VK->Prop}(h:MtR X id r)(h':MtR X id r'):MtR X id (fun x xs H Q=>r x xs H Q\/r' x xs H Q):=by
 intro pins s σ H x xs v us Q I rx rs q
 rcases q with q|q
 ·exact h pins s σ H x xs v us Q I rx rs q
 ·exact h' pins s σ H x xs v us Q I rx rs q
theorem pe_ix {r:R2}(hr:IxR X r)(ha:PE X a ta)(hb:PE X b tb)(hs:PlainIx b):PE X (.Subscript a b pos) (tOp r ta tb):=by
 intro pins s σ H Q I h
 exact Subscript_ (binT ha hb I h fun v u s2 x y H2 I2 rx ry q=>hr a b pins s2 σ H2 x y v u Q I2 rx ry q (hs _ _))
noncomputable def rIxL (K:PySem.W.Frag):R2:=fun x y H Q=>∃ p xs i v,x=.ref p/\y=.int i/\SqL K H p xs/\atI xs i=some v/\Q v H
noncomputable def rIxT (K:PySem.W.Frag):R2:=fun x y H Q=>∃ p xs i v,x=.ref p/\y=.int i/\SqT K H p xs/\atI xs i=some v/\Q v H
noncomputable def rIxS:R2:=fun x y H Q=>∃ z i c,x=.str z/\y=.int i/\z.length<=sizeLine/\atI z.cps.toList i=some c/\Q (.str ⟨#[c]⟩) H
theorem ix_list:IxR X (rIxL X.K):=by
 intro value slice pins s σ H x y v u Q I rx ry h hs
 obtain ⟨p,xs,i,z,rfl,rfl,hq,he,q⟩:=h
 cases rx
 obtain ⟨t,rfl⟩:=ry
 obtain ⟨its,r,pl,hz⟩:=I.list hq
 obtain ⟨j,h1,h2,h3,h4,h5⟩:=atI_get he
 obtain ⟨w,ew,rw'⟩:=r.get h2
 have hl:=r.length
 have hn:=line63
 have fin:EP X pins σ Q w s:=⟨z,H,I,rw',q⟩
 by_cases h0:0<=i
 ·have hj:i.toNat=j:=by
   rw [seqIndex_of h0 h5] at h1
   exact Option.some.inj h1
  exact item_listR pl.isList h0 (by omega) (by rw [hj];simpa using ew) fin hs
 ·have hj:(i+(its.toArray.size:Int)).toNat=j:=by
   rw [seqIndex_neg (by omega) h4] at h1
   rw [List.size_toArray,<- hl]
   exact Option.some.inj h1
  exact subscriptTail_builtinR (x:=w) pl.isList.typeIs slot_list_getitem.lookup
   (wpAny_getItem_list_neg (Q:=fun r s'=>r=w/\EP X pins σ Q r s') pl.isList (by omega) (by rw [List.size_toArray]<;>omega) (by omega) (by rw [hj];simpa using ew) ⟨rfl,fin⟩) hs
theorem ix_tup:IxR X (rIxT X.K):=by
 intro value slice pins s σ H x y v u Q I rx ry h hs
 obtain ⟨p,xs,i,z,rfl,rfl,hq,he,q⟩:=h
 cases rx
 obtain ⟨t,rfl⟩:=ry
 obtain ⟨its,r,pl,hz⟩:=I.tuple hq
 obtain ⟨j,h1,h2,h3,h4,h5⟩:=atI_get he
 obtain ⟨w,ew,rw'⟩:=r.get h2
 have hl:=r.length
 have hn:=line63
 have fin:EP X pins σ Q w s:=⟨z,H,I,rw',q⟩
 exact subscriptTail_builtinR (x:=w) pl.typeIs slot_tuple_getitem.lookup
  (getItem_tuple (j:=j) (Q:=fun r s'=>r=w/\EP X pins σ Q r s') pl (by omega) (by omega) (by rw [List.size_toArray,<- hl];exact h1) (by simpa using ew) ⟨rfl,fin⟩) hs
theorem ix_str:IxR X rIxS:=by
 intro value slice pins s σ H x y v u Q I rx ry h hs
 obtain ⟨z,i,c,rfl,rfl,hz,he,q⟩:=h
 obtain ⟨t,rfl⟩:=rx
 obtain ⟨t',rfl⟩:=ry
 obtain ⟨j,h1,h2,h3,h4,h5⟩:=atI_get he
 have hl:z.cps.toList.length=z.length:=by simp [Str.length]
 rw [hl] at h1 h4 h5
 have hn:=line63
 exact tail_any (typeIs_str s z t) slot_str_getitem.lookup (getItem_str (c:=c) (by
  have e1:decide (i < -(2 ^ 63:Int))=false:=decide_eq_false (by omega)
  have e2:decide (i >= 2 ^ 63)=false:=decide_eq_false (by omega)
  rw [e1,e2,Bool.or_false]) (by rw [h1];simpa using h2) ⟨.str ⟨#[c]⟩,H,I.tok _,⟨_,rfl⟩,q⟩) hs
noncomputable def rIx (K:PySem.W.Frag):R2:=fun x y H Q=>rIxL K x y H Q\/rIxT K x y H Q\/rIxS x y H Q
theorem ix_seq:IxR X (rIx X.K):=ix_list.or (ix_tup.or ix_str)
theorem mapSeq_set (its:List Value)(n j:Nat)(u:Value):Obj.mapSeq (·.setIfInBounds j u) { cls:=.type "list",data:=.seq its.toArray n } = { cls:=.type "list",data:=.seq (its.set j u).toArray n }:=by
 simp [Obj.mapSeq]
theorem Inv.lst {pins:List (Addr×Obj)}{σ:St}{H:Hp}{s:Shared}{p:Addr}{xs:List V}(I:Inv X pins σ H s)(h:H p=some (.lst xs)) :
  ∃ (its:List Value)(n:Nat),Vals xs its/\s.heap.get? p=some { cls:=.type "list",data:=.seq its.toArray n }/\xs.length<=sizeLine:=by
 obtain ⟨z,its,n,r,e⟩:=I.hok p _ h
 exact ⟨its,n,r,e,z⟩
theorem Inv.lstUpd {pins:List (Addr×Obj)}{σ:St}{H:Hp}{s:Shared}{p:Addr}{xs ys:List V}{its its':List Value}{n n':Nat}{f:Obj->Obj}(I:Inv X pins σ H s)(h:H p=some (.lst xs))
  (ho:s.heap.get? p=some { cls:=.type "list",data:=.seq its.toArray n }) (hf:f { cls:=.type "list",data:=.seq its.toArray n } = { cls:=.type "list",data:=.seq its'.toArray n' }) (r:Vals ys its')(hz:ys.length<=sizeLine)(t:Nat) :
  Inv X pins σ (upd H p (.lst ys)) { s with heap:=s.heap.update p f,toks:=t }:=by
 have e:(s.heap.update p f).get? p=some { cls:=.type "list",data:=.seq its'.toArray n' }:=by
  rw [Heap.get?_update_self f ho (by rw [hf]<;>rfl),hf]
 refine I.write (x:=p) (e:=p) (by rw [h];trivial) (.inl rfl) (fun b u hb q=>(Heap.get?_update_other _ _ (Ne.symm hb)).trans q) ⟨_,e⟩ ?_
 exact ⟨hz,its',n',r,e⟩
noncomputable def rSetL:V->V->V->Hp->(Hp->Prop)->Prop:=fun o i v H Q=>∃ p xs k j,o=.ref p/\i=.int k/\H p=some (.lst xs)/\ixN xs.length k=some j/\Q (upd H p (.lst (xs.set j v)))
theorem set_list:PSet X rSetL:=by
 intro pins s σ H o i v ov iv u Q I ro ri rv h
 obtain ⟨p,xs,k,j,rfl,rfl,hp,hj,q⟩:=h
 cases ro
 obtain ⟨t,rfl⟩:=ri
 obtain ⟨its,n,r,ho,hz⟩:=I.lst hp
 obtain ⟨h1,h2,h3,h4⟩:=ixN_seq hj
 have hl:=r.length
 have hn:=line63
 have I':Inv X pins σ (upd H p (.lst (xs.set j v))) { s with heap:=s.heap.update p (Obj.mapSeq (·.setIfInBounds j u)) }:=
  I.lstUpd hp ho (mapSeq_set its n j u) (r.set rv j) (by rw [List.length_set];exact hz) s.toks
 by_cases h0:0<=k
 ·have hk:k.toNat=j:=by
   rw [seqIndex_of h0 h4] at h1
   exact Option.some.inj h1
  exact PySem.W.ki_setAt ho h0 (by omega) (by rw [List.size_toArray,<- hl];exact h4) (by rw [hk];exact ⟨_,I',q⟩)
 ·have hk:(k+(its.toArray.size:Int)).toNat=j:=by
   rw [seqIndex_neg (by omega) h3] at h1
   rw [List.size_toArray,<- hl]
   exact Option.some.inj h1
  exact PySem.W.ki_setBack ho (by omega) (by rw [List.size_toArray,<- hl];exact h3) (by omega) (by rw [hk];exact ⟨_,I',q⟩)
theorem slice_bounds (lo hi:Option Int)(n:Nat):(sliceBounds lo hi none n).1=((HT.sIx n 0 lo:Nat):Int)/\(sliceBounds lo hi none n).2.1=((HT.sIx n n hi:Nat):Int)/\(sliceBounds lo hi none n).2.2=1:=by
 refine ⟨?_,?_,rfl⟩
 ·cases lo with
  | none=>simp [sliceBounds,HT.sIx]
  | some i=>
   simp only [sliceBounds,HT.sIx,Option.getD_none,show (1:Int)>0 by decide,if_true]
   by_cases h:i<0
   ·simp only [h,if_true]<;>omega
   ·simp only [h,if_false]<;>omega
 ·cases hi with
  | none=>simp [sliceBounds,HT.sIx]
  | some i=>
   simp only [sliceBounds,HT.sIx,Option.getD_none,show (1:Int)>0 by decide,if_true]
   by_cases h:i<0
   ·simp only [h,if_true]<;>omega
   ·simp only [h,if_false]<;>omega
theorem slicePick_cut (its:List Value)(lo hi:Option Int):slicePick its.toArray lo hi none=((its.drop (HT.sIx its.length 0 lo)).take (HT.sIx its.length its.length hi - HT.sIx its.length 0 lo)).toArray:=by
 obtain ⟨h1,h2,h3⟩:=slice_bounds lo hi its.toArray.size
 unfold slicePick
 rw [h1,h2,h3]
 simp only [sliceRange_one,pick_run,List.size_toArray]<;>rfl
noncomputable def rSlL (K:PySem.W.Frag):V->Option Int->Option Int->Hp->VK->Prop:=fun x lo hi H Q=>∃ a xs,x=.ref a/\SqL K H a xs/\∀ p,H p=none->Q (.ref p) (upd H p (.lst (cutV xs lo hi)))
theorem sl_list:SlR X (rSlL X.K):=by
 intro pins s σ H x v vl vu lo hi sl Q I rx hs pl pu h
 obtain ⟨a,xs,rfl,hx,q⟩:=h
 cases rx
 obtain ⟨its,r,ht,hz⟩:=I.list hx
 have hlen:=r.length
 refine ⟨"list",_,slot_list_getitem.lookup,ht.isList.typeIs,?_⟩
 refine wpAny_getItem_list_slice ht.isList hs pl pu .none (by simp) ?_ (by rw [List.size_toArray]<;>omega)
 rw [slicePick_cut,<- hlen]
 refine ⟨.ref s.heap.objs.size,_,I.laid (t':=s.toks) (o:=.lst (cutV xs lo hi)) (fun b ob q=>Heap.get?_push_of_some _ q) (Nat.le_refl _) ?_,rfl,q _ (I.hok.fresh (Nat.le_refl _))⟩
 exact ⟨Nat.le_trans (cutV_length xs lo hi) hz,_,0,(r.drop (HT.sIx xs.length 0 lo)).take (HT.sIx xs.length xs.length hi - HT.sIx xs.length 0 lo),Heap.get?_push_size _ rfl⟩
theorem call_len_seq:CallR X (.builtin "len") (fun xs H Q=>∃ p ys,xs=[.ref p]/\(SqL X.K H p ys\/SqT X.K H p ys)/\Q (.int ys.length) H):=by
 intro pins s σ H xs us Q I r h
 obtain ⟨p,ys,rfl,hq,q⟩:=h
 obtain ⟨u,rfl,rx⟩:=vals1 r
 cases rx
 have hn:=line63
 rcases hq with hq|hq
 ·obtain ⟨its,r',pl,hz⟩:=I.list hq
  have hlen:=r'.length
  exact Calls.call_len_list pl.isList (by simp only [List.size_toArray]<;>omega) ⟨.int ys.length,H,I.tok _,⟨s.toks+1,by rw [List.size_toArray,hlen]⟩,q⟩
 ·obtain ⟨its,r',pl,hz⟩:=I.tuple hq
  have hlen:=r'.length
  exact len_tuple pl (by simp only [List.size_toArray]<;>omega) ⟨.int ys.length,H,I.tok _,⟨s.toks+1,by rw [List.size_toArray,hlen]⟩,q⟩
theorem call_len_str:CallR X (.builtin "len") (fun xs H Q=>∃ z,xs=[.str z]/\z.length<=sizeLine/\Q (.int z.length) H):=by
 intro pins s σ H xs us Q I r h
 obtain ⟨z,rfl,hz,q⟩:=h
 obtain ⟨u,rfl,t,rfl⟩:=vals1 r
 have hn:=line63
 exact len_str (by omega) ⟨.int z.length,H,I.tok _,⟨_,rfl⟩,q⟩
theorem CallR.or {f:Value}{r r':List V->Hp->VK->Prop}(h:CallR X f r)(h':CallR X f r'):CallR X f (fun xs H Q=>r xs H Q\/r' xs H Q):=by
 intro pins s σ H xs us Q I rs q
 rcases q with q|q
 ·exact h pins s σ H xs us Q I rs q
 ·exact h' pins s σ H xs us Q I rs q
theorem call_list_of:CallR X (.type "list") (fun xs H Q=>∃ p ys,xs=[.ref p]/\(SqL X.K H p ys\/SqT X.K H p ys)/\∀ l,H l=none->Q (.ref l) (upd H l (.lst ys))):=by
 intro pins s σ H xs us Q I r h
 obtain ⟨p,ys,rfl,hq,q⟩:=h
 obtain ⟨u,rfl,rx⟩:=vals1 r
 cases rx
 have fin:∀ (its:List Value),Vals ys its->ys.length<=sizeLine->∀ (h':Heap)(c':Nat),(∀ b o',s.heap.get? b=some o'->h'.get? b=some o')->
   h'.get? s.heap.objs.size=some { cls:=.type "list",dict:=none,data:=.seq its.toArray c',slots:=#[] }->EP X pins σ Q (.ref s.heap.objs.size) { s with heap:=h' }:=fun its r' hz h' c' kp e=>
  ⟨.ref s.heap.objs.size,_,I.laid (t':=s.toks) kp (Nat.le_refl _) (show ObjOk X.prog X.w _ h' _ (.lst ys) from ⟨hz,its,c',r',e⟩),rfl,q _ (I.hok.fresh (Nat.le_refl _))⟩
 rcases hq with hq|hq
 ·obtain ⟨its,r',pl,hz⟩:=I.list hq
  have hlen:=r'.length
  obtain ⟨o,ho,hc,n,hd⟩:=pl.isList
  exact call_list_seq p (.inl rfl) ho hc hd (fun h' c' kp e=>fin its r' hz h' c' kp e) (by simp only [List.size_toArray]<;>omega)
 ·obtain ⟨its,r',pl,hz⟩:=I.tuple hq
  have hlen:=r'.length
  obtain ⟨o,ho,hc,n,hd⟩:=pl
  exact call_list_seq p (.inr rfl) ho hc hd (fun h' c' kp e=>fin its r' hz h' c' kp e) (by simp only [List.size_toArray]<;>omega)
noncomputable def tyV (K:PySem.W.Frag)(T:String)(x:V)(H:Hp):Prop:=match x with
 | .str _=>T = "str"
 | .int _=>T = "int"
 | .ref p=>(T = "list"/\∃ xs,SqL K H p xs)\/(T = "tuple"/\∃ o,K.lookup p=some o/\o.cls=.type "tuple"/\o.dict=none) \/
   (T = "dict"/\((∃ kvs,H p=some (.dK kvs))\/∃ kvs,H p=some (.dT kvs)))\/(T = "set"/\∃ S n,H p=some (.set S n))
 | _=>False
theorem tyV_is {pins:List (Addr×Obj)}{σ:St}{H:Hp}{s:Shared}{T:String}{x:V}{v:Value}(I:Inv X pins σ H s)(r:RelV x v)(ty:tyV X.K T x H) :
  s.TypeIs v T/\∀ a,v=.ref a->∃ ob,s.heap.get? a=some ob/\ob.dict=none:=by
 cases x with
 | str z=>
  obtain ⟨t,rfl⟩:=r
  cases (show T = "str" from ty)
  exact ⟨typeIs_str s z t,fun _ e=>nomatch e⟩
 | int i=>
  obtain ⟨t,rfl⟩:=r
  cases (show T = "int" from ty)
  exact ⟨typeIs_int s i t,fun _ e=>nomatch e⟩
 | ref p=>
  cases r
  rcases ty with ⟨rfl,xs,hq⟩|⟨rfl,o,hk,hc,hd⟩|⟨rfl,hk⟩|⟨rfl,S,n,hk⟩
  ·obtain ⟨its,_,pl,_⟩:=I.list hq
   refine ⟨pl.isList.typeIs,fun a e=>?_⟩
   cases e
   obtain ⟨o,n,e,c,hd,_⟩:=pl
   exact ⟨o,e,hd⟩
  ·refine ⟨⟨o,I.kIn p o hk,hc⟩,fun a e=>?_⟩
   cases e
   exact ⟨o,I.kIn _ o hk,hd⟩
  ·have z:∃ o,s.heap.get? p=some o/\o.ExactDict:=by
    rcases hk with ⟨kvs,hk⟩|⟨kvs,hk⟩
    ·obtain ⟨_,_,_,_,o,_,_,e,ex,_⟩:=I.hok p _ hk
     exact ⟨o,e,ex⟩
    ·obtain ⟨_,_,_,_,o,_,_,e,ex,_⟩:=I.hok p _ hk
     exact ⟨o,e,ex⟩
   obtain ⟨o,e,ex⟩:=z
   refine ⟨⟨o,e,ex.1⟩,fun a e2=>?_⟩
   cases e2
   exact ⟨o,e,ex.2.1⟩
  ·obtain ⟨o,_,_,_,e,ex,_⟩:=I.hok p _ hk
   refine ⟨⟨o,e,ex.1⟩,fun a e2=>?_⟩
   cases e2
   exact ⟨o,e,ex.2.1⟩
 | _=>exact False.elim ty
noncomputable def tBM (K:PySem.W.Frag)(T:String)(r:V->List V->Hp->VK->Prop)(to:TE)(t:TA):TE:=fun σ H Q=>to σ H fun x H1=>tyV K T x H1/\t σ H1 fun xs H2=>r x xs H2 Q
variable {o e:Expr}{es:List Expr}{to:TE}{t:TA}{name:Str}{apos cpos:Pos}{T id:String}{r:V->List V->Hp->VK->Prop}
theorem pe_bm (pa:PlainAttrs T)(slot:Slot T name id)(hty:typeOf (.builtin id)=pure (.type "method_descriptor")) (hm:MtR X id r)(ho:PE X o to)(ha:PA X (e::es) t)
  (hbase:attributeBase o name X.env (eval o X.env)=eval o X.env:=by rfl)
  (hfew:((backTo cpos (starEach (e::es) X.env)).all (fun x=>!x.1)&&(backToKw cpos (keywordEach [] X.env)).all (fun x=>x.1.isSome)
   && decide ((e::es).length+([]:List Keyword).length+(if ([]:List Keyword).isEmpty then 0 else 1)<30))=true:=by rfl)
  (hline:(apos.endLine == cpos.line)=true:=by rfl)(hs:starEach (e::es) X.env=(false,eval e X.env)::starEach es X.env:=by rfl)(hplain:(backTo cpos (starEach es X.env)).any (·.1)=false:=by rfl) :
  PE X (.Call (.Attribute o name apos) (e::es) [] cpos) (tBM X.K T r to t):=by
 intro pins s σ H Q I h
 refine wpAny_Call_method_late hbase hfew hline rfl (thn (ho pins s σ H _ I h) fun v s1 ⟨x,H1,I1,r1,ty,q1⟩=>?_)
 obtain ⟨h1,h2⟩:=tyV_is I1 r1 ty
 refine ⟨T,id,pa,slot,hty,h1,h2,?_⟩
 have hA:=ha cpos pins s1 σ H1 _ I1 q1
 rw [hs] at hA ⊢
 refine Calls.callWith_builtin (by show (false||(backTo cpos (starEach es X.env)).any (·.1))=false;rw [hplain]<;>rfl) (Calls.evalArgs_plain ?_)
 exact thn hA fun us s2 ⟨vs,H2,I2,r2,q2⟩=>hm pins s2 σ H2 x vs v us Q I2 r1 r2 q2
end
end L2
namespace L2
open PySem PySem.Spec PyProof.Rows
noncomputable def MtM (X:Cx)(id:String)(r:V->List V->Hp->VK->Prop):Prop:=
 ∀ (pins:List (Addr×Obj))(s:Shared)(σ:St)(H:Hp)(x:V)(xs:List V)(v:Value)(us:List Value)(Q:VK),Inv X pins σ H s->RelV x v->Vals xs us->r x xs H Q->
  wpAny (model X.prog X.w) X.A (call (.builtin id) (v::us)) (EP X pins σ Q) X.xe s
theorem Vals.one:∀ {x:V}{us:List Value},Vals [x] us->∃ u,us=[u]/\RelV x u
 | _,_,.cons r .nil=>⟨_,rfl,r⟩
theorem Vals.two:∀ {x y:V}{us:List Value},Vals [x,y] us->∃ u v,us=[u,v]/\RelV x u/\RelV y v
 | _,_,_,.cons r (.cons q .nil)=>⟨_,_,rfl,r,q⟩
theorem Vals.zero:∀ {us:List Value},Vals [] us->us=[]
 | _,.nil=>rfl
theorem Vals.reverse {xs:List V}{us:List Value}(h:Vals xs us):Vals xs.reverse us.reverse:=by
 induction h with
 | nil=>exact .nil
 | cons r t ih=>rw [List.reverse_cons,List.reverse_cons];exact Vals.append ih (.cons r .nil)
section
variable {X:Cx}{pins:List (Addr×Obj)}{σ:St}{H:Hp}{s:Shared}{l b:Addr}{xs ys zs:List V}
theorem Inv.lset {its its':List Value}{n:Nat}{f:Array Value->Array Value}{t':Nat}(I:Inv X pins σ H s)(hH:H l=some (.lst xs))
  (e:s.heap.get? l=some { cls:=.type "list",data:=.seq its.toArray n }) (hf:f its.toArray=its'.toArray)(hv:Vals ys its')(hz:ys.length<=sizeLine) :
  Inv X pins σ (upd H l (.lst ys)) { s with heap:=s.heap.update l (Obj.mapSeq f),toks:=t' }:=by
 have q:=PySem.IsL.update e f
 rw [hf] at q
 refine I.write (x:=l) (e:=l) (by rw [hH];exact trivial) (.inl rfl) (fun b' u hb hu=>(Heap.get?_update_other s.heap (Obj.mapSeq f) (Ne.symm hb)).trans hu) ⟨_,q⟩ ?_
 exact ⟨hz,its',_,hv,q⟩
theorem Inv.lnew {its:List Value}{t':Nat}(I:Inv X pins σ H s)(hv:Vals ys its)(hz:ys.length<=sizeLine) :
  Inv X pins σ (upd H s.heap.objs.size (.lst ys)) { s with heap:=s.heap.push { cls:=.type "list",data:=.seq its.toArray },toks:=t' }:=
 I.laid (fun _ _ q=>Heap.get?_push_of_some _ q) (Nat.le_refl _) ⟨hz,its,0,hv,Heap.get?_push_size _ rfl⟩
theorem Inv.fresh (I:Inv X pins σ H s):H s.heap.objs.size=none:=I.hok.fresh (Nat.le_refl _)
theorem Inv.lstM (I:Inv X pins σ H s)(hH:H l=some (.lst xs)):xs.length<=sizeLine/\∃ (its:List Value)(n:Nat),Vals xs its/\xs.length=its.length/\s.heap.get? l=some { cls:=.type "list",data:=.seq its.toArray n }:=by
 obtain ⟨z,its,n,r,e⟩:=I.hok l _ hH
 exact ⟨z,its,n,r,r.length,e⟩
end
section
variable {X:Cx}
noncomputable def rAppend:V->List V->Hp->VK->Prop:=fun x vs H Q=>∃ l xs y,x=.ref l/\vs=[y]/\H l=some (.lst xs)/\xs.length<sizeLine/\Q .non (upd H l (.lst (xs++[y])))
theorem mt_append:MtM X "list.append" rAppend:=by
 intro pins s σ H x vs v us Q I rx rv h
 obtain ⟨l,xs,y,rfl,rfl,hH,hz,q⟩:=h
 cases rx
 obtain ⟨u,rfl,ru⟩:=rv.one
 obtain ⟨z,its,n,r,hl,e⟩:=I.lstM hH
 refine call_meets F.slot_list_append ⟨_,e,rfl⟩ F.entry_list_append (F.args_list_append_2 _ _) (PySem.list_append l its.toArray n u (by rw [List.size_toArray];omega)) ⟨e,?_⟩
 refine ⟨.non,_,I.lset (its':=its++[u]) hH e (by simp) (r.append (.cons ru .nil)) ?_,rfl,q⟩
 rw [List.length_append,List.length_singleton]
 omega
noncomputable def rCat:R2:=fun x y H Q=>∃ l b xs zs,x=.ref l/\y=.ref b/\H l=some (.lst xs)/\H b=some (.lst zs)/\xs.length+zs.length<=sizeLine/\∀ p,H p=none->Q (.ref p) (upd H p (.lst (xs++zs)))
theorem op_cat:OpR X (binaryOp .Add) rCat:=by
 intro pins s σ H x y v u Q I rx ry h
 obtain ⟨l,b,xs,zs,rfl,rfl,hH,hB,hz,q⟩:=h
 cases rx
 cases ry
 obtain ⟨z,its,n,r,hl,e⟩:=I.lstM hH
 obtain ⟨z2,its2,n2,r2,hl2,e2⟩:=I.lstM hB
 refine PySem.P.add_list e e2 ?_ (by rw [List.size_toArray,List.size_toArray];omega)
 have ea:its.toArray++its2.toArray=(its++its2).toArray:=by simp
 rw [ea]
 exact ⟨.ref _,_,I.lnew (t':=s.toks) (r.append r2) (by rw [List.length_append];omega),rfl,q _ I.fresh⟩
end
section
variable {prog:Program}{w:World}{A:Around}{E:Value->Shared->Prop}{s:Shared}
end
section
variable {X:Cx}
end
end L2
namespace Att
open PySem PySem.W PySem.Calls PyProof.Rows
theorem ints_of_wellAll {P:Params}{h:Heap}:∀ (ns:List Int)(vs:List Value),WellAll P h vs (ns.map WData.int)->IntsAre vs ns:=by
 intro ns
 induction ns with
 | nil=>
  intro vs w
  rw [List.map_nil] at w
  cases w
  exact .nil
 | cons n ns ih=>
  intro vs w
  rw [List.map_cons] at w
  cases w with
  | cons a b=>
   cases a
   exact .cons _ _ (ih _ b)
theorem script_of {l:OpenLaw}{n:Nat}(hn:l.most=some n){P:Params}{h:Heap}{args:List WData}{vals:List Value}
  (hpre:l.row.toRowW.claim.pre args=true)(hwl:WellAll P h vals args) :
  ∃ a vs ns,vals=[Value.ref a]/\args=[WData.list (ns.map WData.int)]/\h.get? a=some { cls:=.type "list",data:=.seq vs.toArray }/\IntsAre vs ns/\ns.length<=n:=by
 have hsh:WShape.hasAll [] args [.list .int]=true:=(pre_splitW hpre).1
 have hc:l.pre.holds [] { args:=args } = true:=(pre_splitW hpre).2
 obtain ⟨d,r,rfl,h1,h2⟩:=hasAllW_cons hsh
 obtain rfl:=hasAllW_nil h2
 obtain ⟨xs,rfl,h3⟩:=hasW_list h1
 obtain ⟨ns,rfl⟩:=items_int h3
 have hlen:ns.length<=n:=by
  unfold OpenLaw.pre at hc
  have h4:(WTm.not (.lt (.lit (.int (n:Int))) (.len (.arg 0)))).holds [] { args:=[.list (ns.map .int)] } = true:=by
   have h4:=(holds_andW hc).1
   rw [hn] at h4
   exact h4
  have h5:=condW_of h4 (w_not (w_lt w_lit (w_len_list (w_arg rfl))))
  rw [List.length_map] at h5
  refine Nat.le_of_not_lt fun q=>?_
  have q':(n:Int)<((ns.length:Nat):Int):=by omega
  first
   | (rw [decide_eq_true q'] at h5;exact absurd h5 (by decide))
   | (simp at h5;omega)
 cases hwl with
 | cons w1 w2=>
  cases w2
  cases w1 with
  | list ho hall=>exact ⟨_,_,ns,rfl,rfl,ho,ints_of_wellAll ns _ hall,hlen⟩
theorem post_true (l:OpenLaw)(args:List WData):l.row.toRowW.claim.post args (.bool true) args=true:=
 postW_of (r:=l.row.toRowW) (X:=(true == true))
  (show WShape.has [] (.bool true) .bool=true by first|rfl|decide|simp [WShape.has,WShape.arms,WShape.armsAll])
  (show (WTm.eq .res (.lit (.bool true))).value [] { args:=args,res:=some (.bool true),after:=args } = some (.bool (true == true)) from w_eq_bool (w_res rfl) w_lit) rfl
section
variable {prog:Program}{w:World}{A:Around}{E:Value->Shared->Prop}{s:Shared}{K:Frag}
end
end Att
namespace L2
open PySem PySem.Spec PyProof.Rows
theorem vals_ints:∀ {vs:List Value}{ns:List Int},IntsAre vs ns->Vals (ns.map V.int) vs
 | _,_,.nil=>.nil
 | _,_,.cons n t h=>.cons ⟨t,rfl⟩ (vals_ints h)
noncomputable def Only (H:Hp):Prop:=∀ b,H b=none\/∃ o xs,H b=some (.frz o (.lst xs))
theorem law_call {P:Program}{w:World}{K:PySem.W.Frag}{mg mb:Str->Option Value}{CX:CXT}{k:Nat}{fa a:Addr}{fd:FuncData}{x:Str}{sp:Sp}{s₁:Shared}{vs:List Value}{ns:List Int}
  (KX:K.In s₁.heap)(hns:s₁.heap.Ns mainGlobals mg)(hb:s₁.heap.Ns builtinsNs mb)(hbb:∀ x:Str,x ≠ "__name__"->mb x=bootBuiltins x) (hlim:s₁.heap.NoLimit)(hg:s₁.gens = #[])
  (ha:s₁.heap.get? a=some { cls:=.type "list",data:=.seq vs.toArray }) (hi:IntsAre vs ns)(hl:ns.length<=sizeLine)(hr:Room k callerA)
  (F:∀ base:Heap,K.In base->base.Ns mainGlobals mg->FnOk P w K mg base CX k fa fd [x] sp)(hbind:∀ (s:Shared)(u:Value),BindsTo s fd ⟨[u],[]⟩ [(x,u)])
  (hsp:∀ H:Hp,Only H->SqL K H a (ns.map V.int)->sp [.ref a] H (fun v _=>v=.bl true) fun _ _ _=>False)
  (hCX:∀ H e s',CX [] H s₁ (fun _ _ _=>False) e s'->False) :
  codeAny (model P w) callerA (.call (.ref fa) ⟨[.ref a],[]⟩) (fun r s'=>r=.ok (.ret (.bool true))/\OldK s₁.heap s'.heap/\s'.os=s₁.os/\AllBare s'.gens) s₁:=by
 have rv:=vals_ints hi
 have lenV:=hi.length
  -- from an abstract heap in which nothing but the script may be tracked
 have core:∀ H:Hp,Only H->SqL K H a (ns.map V.int)->HOk P w H s₁.heap->(∀ b,H b≠none->b=a)->(H a≠none->K.lookup a=none)->
   codeAny (model P w) callerA (.call (.ref fa) ⟨[.ref a],[]⟩) (fun r s'=>r=.ok (.ret (.bool true))/\OldK s₁.heap s'.heap/\s'.os=s₁.os/\AllBare s'.gens) s₁:=by
  intro H hO hS hok hA hK
  have base_of:∀ {b:Addr}{o:Obj},s₁.heap.get? b=some o->H b=none->(hidT s₁.heap H).get? b=some o:=fun e n=>hidT_get e n
  have noA:∀ {b:Addr}{o:Obj}{es:Array DictEntry}{ep:Nat},s₁.heap.get? b=some o->o.data=.dict es ep->H b=none:=fun {b o es ep} e d=>by
   cases q:H b with
   | none=>rfl
   | some u=>
    have e':b=a:=hA b (by rw [q];simp)
    subst e'
    rw [ha] at e;cases e
    have d':Data.seq vs.toArray _=Data.dict es ep:=d
    cases d'
  have nsK:∀ {b:Addr}{m:Str->Option Value},s₁.heap.Ns b m->(hidT s₁.heap H).Ns b m:=fun {b m} ⟨o,es,ep,e,d,r⟩=>⟨o,es,ep,base_of e (noA e d),d,r⟩
  have hKb:K.In (hidT s₁.heap H):=fun b o e=>base_of (KX b o e) (by
   cases q:H b with
   | none=>rfl
   | some u=>
    have e':b=a:=hA b (by rw [q];simp)
    subst e'
    rw [hK (by rw [q];simp)] at e;cases e)
  have hM:Mod K mg (hidT s₁.heap H):=⟨hKb,nsK hns,⟨mb,nsK hb,hbb⟩,let ⟨mc,h1,h2⟩:=hlim;⟨mc,nsK h1,h2⟩⟩
  have e0:Env0 P w K mg (hidT s₁.heap H) callerA [] s₁ H:=⟨rfl,hM,fun b o e=>of_hidT e,Nat.le_of_eq (hidT_size _ _),trivial,fun b hb=>absurd (show b∈([]:List Addr) from hb) (by simp),hok,.of_eq hg⟩
  refine codeAny_mono ((F _ hKb (nsK hns)).run callerA [] s₁ H ⟨[.ref a],[]⟩ [.ref a] [.ref a] _ _ hr e0 (hbind s₁ (.ref a)) (.cons rfl .nil) (hsp H hO hS)) fun r s' h=>?_
  cases r with
  | error e=>exact (hCX H e s' h).elim
  | ok fl=>
   cases fl with
   | next=>exact False.elim h
   | brk=>exact False.elim h
   | cont=>exact False.elim h
   | ret u=>
    obtain ⟨v,H',os,bare,un,hok',r',q⟩:=h
    have q':v=.bl true:=q
    subst q'
    obtain rfl:u=Value.bool true:=r'
    refine ⟨rfl,OldK.of_keep fun b o e=>?_,os,bare⟩
    cases q:H b with
    | none=>exact un.keep b o e q (by intro z;exact absurd (show b∈([]:List Addr) from z) (by simp)) (by simp)
    | some u=>
     rcases hO b with z|⟨ob,xs,z⟩
     ·rw [q] at z;cases z
     ·have z2:=un.frzs b ob _ z
      obtain ⟨e1,_⟩:=hok b _ z
      obtain ⟨e2,_⟩:=hok' b _ z2
      rw [e] at e1;cases e1
      exact e2
 cases hk:K.lookup a with
 | some o=>
    -- the script is one of the module's own objects
  have e:=KX a o hk
  rw [ha] at e
  cases e
  refine core (fun _=>none) (fun _=>.inl rfl) (.inr ⟨_,vs.toArray,_,hk,rfl,rfl,rfl,by rw [List.size_toArray,lenV];exact hl,by simpa using rv⟩) (fun b u z=>by have z':(none:Option HO)=some u:=z;cases z') (fun b z=>absurd rfl z) fun z=>absurd rfl z
 | none=>
  refine core (fun b=>if b=a then some (.frz { cls:=.type "list",data:=.seq vs.toArray } (.lst (ns.map V.int))) else none) (fun b=>?_) (.inl (.inr ⟨{ cls:=.type "list",data:=.seq vs.toArray },if_pos rfl⟩)) (fun b u z=>?_) (fun b z=>?_) fun _=>hk
  ·by_cases hb:b=a
   ·exact .inr ⟨_,_,if_pos hb⟩
   ·exact .inl (if_neg hb)
  ·by_cases hb:b=a
   ·have z':=(if_pos hb).symm.trans z
    cases z'
    subst hb
    exact ⟨ha,by rw [List.length_map];exact hl,vs,_,rv,ha⟩
   ·have z':=(if_neg hb).symm.trans z
    cases z'
  ·by_cases hb:b=a
   ·exact hb
   ·exact absurd (if_neg hb) z
end L2
namespace L2
open PySem PySem.Spec PyProof.Rows
end L2
namespace L2
open PySem PySem.Spec PyProof.Rows
noncomputable def defArgs (s:Stmt):Arguments:=match s with
 | .FunctionDef _ a _ _ _ _ _ _ _ _=>a
 | _=>{ posonlyargs:=[],args:=[],vararg:=none,kwonlyargs:=[],kw_defaults:=[],kwarg:=none,defaults:=[] }
noncomputable def defBody (s:Stmt):List Stmt:=match s with
 | .FunctionDef _ _ b _ _ _ _ _ _ _=>b
 | _=>[]
noncomputable def defScope (s:Stmt):Scope:=match s with
 | .FunctionDef _ _ _ _ _ _ sc _ _ _=>sc
 | _=>{ kind:=.function,names:=[],isGenerator:=false,isCoroutine:=false }
noncomputable abbrev CX0:CXT:=fun _ _ _ _ _ _=>False
noncomputable abbrev E0:XK:=fun _ _ _=>False
theorem pass0 {X:Cx}:Passes CX0 X E0:=fun _ _ _ _ _ _ _ h=>h.elim
structure Fun (K:PySem.W.Frag)(x qual:Str)(st:Stmt)(f:Addr)(fd:FuncData):Prop where
 ex:∃ (oc:Value)(od:Option Addr)(kV doc pm:Value)(an:Option Addr)(cdv ct:Value)(osl:Array (Option Value)),
  fd=PySem.W.fnOf x qual (defArgs st) (defBody st) (defScope st) .none kV doc pm an cdv ct/\K.lookup f=some ⟨oc,od,.func fd,osl⟩/\PySem.W.codeIn K cdv qual=true
 kp:PySem.W.keepIn K (.ref f)=true
section
variable {P:Program}{w:World}{K:PySem.W.Frag}{mg:Str->Option Value}{base:Heap}
theorem Fun.ok {x qual:Str}{st:Stmt}{f:Addr}{fd:FuncData}{N ps:List Str}{k:Nat}{sp:Sp}(F:Fun K x qual st f fd)(S:FnScope N ps (defScope st))(len:∀ vs H Q E,sp vs H Q E->vs.length=ps.length)
  (hbody:∀ (cdv:Value)(A:Around)(outer:List Env)(s:Shared)(H:Hp)(vs:List V)(Q:VK)(E:XK),Room k (A.deeper (envOfC qual (defScope st) s.heap.objs.size f cdv))->sp vs H Q E->
   ∃ t,PSs (cxOf CX0 P w K mg base N qual (defScope st) f cdv A outer s H E).nox (defBody st) t/\t { nx:=fun _ H'=>Q .non H',rt:=Q } (start N vs) H):FnOk P w K mg base CX0 (k+1) f fd ps sp:=by
 obtain ⟨oc,od,kV,doc,pm,an,cdv,ct,osl,rfl,lk,hcd⟩:=F.ex
 refine fn_of lk hcd S len fun A outer s H vs Q E hr hsp=>?_
 obtain ⟨t,h,q⟩:=hbody cdv A outer s H vs Q E hr hsp
 exact ⟨t,h.nox,q⟩
theorem Fun.binds {x qual:Str}{st:Stmt}{f:Addr}{fd:FuncData}{ps:List Str}(F:Fun K x qual st f fd)
  (h:∀ (kV doc pm:Value)(an:Option Addr)(cdv ct:Value)(us:List Value),us.length=ps.length->bindArgs (PySem.W.fnOf x qual (defArgs st) (defBody st) (defScope st) .none kV doc pm an cdv ct) ⟨us,[]⟩=pure (ps.zip us)):Binds K fd ps []:=by
 obtain ⟨oc,od,kV,doc,pm,an,cdv,ct,osl,rfl,lk,hcd⟩:=F.ex
 exact .all (h kV doc pm an cdv ct)
theorem fun_mk {x qual:Str}{st:Stmt}{f:Addr}{oc:Value}{od an:Option Addr}{osl:Array (Option Value)}{kV doc pm cdv ct:Value}(l:K.lookup f=some ⟨oc,od,.func (PySem.W.fnOf x qual (defArgs st) (defBody st) (defScope st) .none kV doc pm an cdv ct),osl⟩)
  (c:PySem.W.codeIn K cdv qual=true)(k:PySem.W.keepIn K (.ref f)=true):Fun K x qual st f (PySem.W.fnOf x qual (defArgs st) (defBody st) (defScope st) .none kV doc pm an cdv ct):=⟨⟨oc,od,kV,doc,pm,an,cdv,ct,osl,rfl,l,c⟩,k⟩
end
section
variable {X:Cx}
end
theorem iteF {A B:Prop}(h:B):if false=true then A else B:=by
 rw [if_neg Bool.false_ne_true]
 exact h
theorem iteT {A B:Prop}(h:A):if true=true then A else B:=by
 rw [if_pos rfl]
 exact h
noncomputable def Same (H H':Hp):Prop:=∀ b o,H b=some o->H' b=some o
theorem Same.trans {H H1 H2:Hp}(a:Same H H1)(b:Same H1 H2):Same H H2:=fun c o h=>b c o (a c o h)
theorem Same.free {H H':Hp}(e:Same H H'){l:Addr}(h:H' l=Option.none):H l=Option.none:=by
 cases q:H l with
 | none=>rfl
 | some o=>
  rw [e l o q] at h
  cases h
theorem Same.seq {K:PySem.W.Frag}{H H':Hp}{a:Addr}{xs:List V}(e:Same H H')(h:SqL K H a xs):SqL K H' a xs:=by
 rcases h with (h|⟨o,h⟩)|h
 ·exact .inl (.inl (e _ _ h))
 ·exact .inl (.inr ⟨o,e _ _ h⟩)
 ·exact .inr h
section
variable {κ:Type} [DecidableEq κ]
end
end L2
namespace Lw
open PySem L2
noncomputable def top (i:Nat):Stmt:=PySem.Challenge.pw_creasecourt_k37_all_rows.main.body.getD i (.Pass ⟨0,0,0,0⟩)
noncomputable def Vw:Program:={ PySem.Challenge.pw_creasecourt_k37_all_rows with main:={ PySem.Challenge.pw_creasecourt_k37_all_rows.main with body:=top 1::top 2::top 4::top 6::top 7::top 9::top 10::top 11::top 12::top 13::top 14::top 15::top 16::top 17::top 18::top 19::top 20::top 21::top 22::top 24::top 25::top 26::top 27::top 28::top 29::top 30::top 31::[] } }
noncomputable abbrev vS (x:String)(n:Nat):Value:=Value.str (Str.ofString x) n
noncomputable abbrev vI (i:Int):Value:=Value.int i 0
noncomputable abbrev vR (a:Addr):Value:=Value.ref a
noncomputable abbrev vN:Value:=Value.none
noncomputable abbrev kO (x y:String)(a b c:Nat)(l n i j k:Int)(r:Addr)(q:Int)(vs:Array Value)(t l2:Int)(e:Nat):Obj:={ cls:=Value.type "code",data:=Data.fields (#[vS x a,vS x b,vS y c,vI l,vI n,vI i,vI j,vI k,vR r,Value.bool true,vI q]++vs++#[vI t,vI l2,vS y e]) }
noncomputable abbrev fO (x:Str)(n:Nat)(m:Value)(c:Addr):Obj:=⟨Value.type "function",none,.func (PySem.W.fnOf x x (defArgs (top n)) (defBody (top n)) (defScope (top n)) Value.none Value.none Value.none m none (Value.ref c) Value.none),#[]⟩
noncomputable abbrev eO (P:PySem.Params)(x:String)(n:Nat)(v:Value):DictEntry:={ hash:=PyData.keyHash P (Str.ofString x),key:=Value.str (Str.ofString x) n,val:=v }
noncomputable abbrev eR (P:PySem.Params)(x:String)(n:Nat)(a:Addr):DictEntry:=eO P x n (vR a)
noncomputable abbrev kA (p:Addr×Obj)(R:PySem.W.Frag):PySem.W.Frag:=p::R
noncomputable abbrev vM (n:Nat):Value:=[vS "creasecourt.places" 223,vS "creasecourt.wedges" 232,vS "creasecourt.crimps" 247,vS "law_creasecourt_k37_all_rows" 362].getD n vN
noncomputable abbrev kF (x:String)(r a:Nat)(l n:Int)(t i:Nat)(m:Value)(R:PySem.W.Frag):PySem.W.Frag:=(r+5,kO x "/claim/cut.py" a (a+1) (a+2) l n 0 0 3 r 181 #[vR (r+1),vN,vR (r+2),vR (r+3),vR (r+4)] t l (t+1))::(r+6,fO x i m (r+5))::R
noncomputable abbrev kG (x:String)(r a:Nat)(l n:Int)(t i:Nat)(m:Value)(R:PySem.W.Frag):PySem.W.Frag:=(r+3,kO x "/claim/cut.py" a (a+1) (a+2) l n 0 0 3 r 181 #[vR (r+1),vN,vN,vN,vR (r+2)] t l (t+1))::(r+4,fO x i m (r+3))::R
noncomputable def Kx:PySem.Params → PySem.W.Frag:=fun P=>kA (3,{ cls:=Value.type "dict",data:=Data.dict #[eO P "__name__" 165 (vS "law_creasecourt_k37_all_rows" 362),eO P "__doc__" 166 vN,eO P "__package__" 167 vN,eO P "__loader__" 168 (Value.builtin "__main__.__loader__#opaque"),eO P "__spec__" 169 vN,eR P "__annotations__" 170 6,eR P "__builtins__" 171 4,eO P "__file__" 173 (vS "/claim/cut.py" 172),eO P "__cached__" 174 vN,eR P "CreaseError" 206 24,eR P "NoRound" 222 37,eR P "is_whole" 231 46,eR P "is_good" 239 51,eR P "check_round" 246 58,eR P "wedges_by" 254 63,eR P "is_crimp" 263 70,eR P "brought_ahead" 272 77,eR P "is_turned_part" 279 84,eR P "crimped" 289 91,eR P "last_two" 297 98,eR P "folded_order" 307 105,eR P "rows_of" 313 110,eR P "all_marks" 319 115,eR P "ways_to_choose" 329 122,eR P "least_ahead" 335 127,eR P "run_of_least" 343 134,eR P "ways_to_fold" 354 141,eR P "how_many" 361 148,eR P "_law_nth" 371 155,eR P "_law_int" 378 162,eR P "_law_gaps" 384 167,eR P "_law_joined" 391 174,eR P "_law_amid" 400 181,eR P "_law_folds" 406 186,eR P "_law_rows" 412 191,eR P "law" 418 196] 36 }) <|
 kF "is_whole" 40 225 7 1 229 4 (vM 0) <|
 kG "is_good" 47 234 10 1 237 6 (vM 1) <|
 kF "check_round" 52 240 16 1 244 7 (vM 1) <|
 kG "wedges_by" 59 249 20 2 252 9 (vM 2) <|
 kF "is_crimp" 64 255 22 3 261 10 (vM 2) <|
 kF "brought_ahead" 71 264 24 1 270 11 (vM 2) <|
 kF "is_turned_part" 78 273 30 1 277 12 (vM 2) <|
 kF "crimped" 85 280 32 3 287 13 (vM 2) <|
 kF "last_two" 92 290 37 2 295 14 (vM 2) <|
 kF "folded_order" 99 298 43 2 305 15 (vM 2) <|
 kG "rows_of" 106 308 51 1 311 16 (vM 2) <|
 kG "all_marks" 111 314 56 1 317 17 (vM 2) <|
 kF "ways_to_choose" 116 320 59 2 327 18 (vM 2) <|
 kG "least_ahead" 123 330 64 1 333 19 (vM 2) <|
 kF "run_of_least" 128 336 68 1 341 20 (vM 2) <|
 kF "ways_to_fold" 135 344 73 1 352 21 (vM 2) <|
 kF "how_many" 142 355 83 1 359 22 (vM 2) <|
 kF "_law_nth" 149 364 87 2 369 24 (vM 3) <|
 kF "_law_int" 156 372 89 1 376 25 (vM 3) <|
 kG "_law_gaps" 163 379 91 2 382 26 (vM 3) <|
 kF "_law_joined" 168 385 107 1 389 27 (vM 3) <|
 kF "_law_amid" 175 392 109 1 398 28 (vM 3) <|
 kG "_law_folds" 182 401 115 3 404 29 (vM 3) <|
 kG "_law_rows" 187 407 125 1 410 30 (vM 3) <|
 kG "law" 192 413 130 1 416 31 (vM 3) <| []
noncomputable def As:List Addr:=[3,45,46,50,51,57,58,62,63,69,70,76,77,83,84,90,91,97,98,104,105,109,110,114,115,121,122,126,127,133,134,140,141,147,148,154,155,161,162,166,167,173,174,180,181,185,186,190,191,195,196]
theorem ks_eq:∀ P,As=(Kx P).map (·.1):=fun _=>by kernel_rfl
open PySem.W PyProof.Rows in
theorem run:LeftO (OpenLaw.row PySem.Challenge.rw_creasecourt_k37_all_rows).prog Vw [] (fun s=>xlAt Vw [] s&&recOk (RowW.records (OpenRow.toRowW (OpenLaw.row PySem.Challenge.rw_creasecourt_k37_all_rows))) s) (Hook.obs (kHook Kx As ks_eq)) (Hook.val (kHook Kx As ks_eq)) 2454:=fun w=>by kernel_rfl
end Lw
set_option maxHeartbeats 4000000
namespace L3
open PySem
open PySem.SetTable (Probe Met Slot bits runEnd leap turns insertAt sizeAbove)
namespace Tb
noncomputable def adv (m:Nat)(p:Probe):Probe:=
 if p.more>0 then { p with j:=p.j+1,more:=p.more - 1 } else
 { p with j:=(leap m p.i p.perturb).1,more:=runEnd m (leap m p.i p.perturb).1 - (leap m p.i p.perturb).1,i:=(leap m p.i p.perturb).1,perturb:=(leap m p.i p.perturb).2 }
noncomputable def st0 (m:Nat)(b:Nat):Probe:={ j:=b % (m+1),more:=runEnd m (b % (m+1)) - b % (m+1),i:=b % (m+1),perturb:=b,dummy:=none }
noncomputable def pth (m b:Nat):Nat->Probe
 | 0=>st0 m b
 | k+1=>adv m (pth m b k)
noncomputable def lp (m b:Nat):Nat->Nat×Nat
 | 0=>(b % (m+1),b)
 | n+1=>leap m (lp m b n).1 (lp m b n).2
noncomputable def hd (m i q:Nat):Probe:={ j:=i,more:=runEnd m i - i,i:=i,perturb:=q,dummy:=none }
theorem pth_run {m b k i q:Nat}(h:pth m b k=hd m i q):∀ r,r<=runEnd m i - i->pth m b (k+r) = { j:=i+r,more:=runEnd m i - i - r,i:=i,perturb:=q,dummy:=none }
 | 0,_=>by rw [Nat.add_zero,h];rfl
 | r+1,hr=>by
  have e:=pth_run h r (by omega)
  show adv m (pth m b (k+r))=_
  rw [e]
  unfold adv
  rw [if_pos (show runEnd m i - i - r>0 by omega)]
  show Probe.mk (i+r+1) (runEnd m i - i - r - 1) i q none=_
  rw [Nat.add_assoc,Nat.sub_sub]
theorem pth_leap {m b k i q:Nat}(h:pth m b k=hd m i q):pth m b (k+(runEnd m i - i)+1)=hd m (leap m i q).1 (leap m i q).2:=by
 have e:=pth_run h (runEnd m i - i) (Nat.le_refl _)
 show adv m (pth m b (k+(runEnd m i - i)))=_
 rw [e]
 unfold adv
 rw [if_neg (show ¬ (runEnd m i - i - (runEnd m i - i)>0) by omega)]
 rfl
noncomputable def nx (m i:Nat):Nat:=(i * 5+1) % (m+1)
noncomputable def itn (m:Nat):Nat->Nat->Nat
 | 0,i=>i
 | n+1,i=>itn m n (nx m i)
theorem itn_add (m:Nat):∀ (a b i:Nat),itn m (a+b) i=itn m b (itn m a i)
 | 0,b,i=>by rw [Nat.zero_add];rfl
 | a+1,b,i=>by rw [Nat.succ_add];exact itn_add m a b (nx m i)
noncomputable def seen (m:Nat):Nat->Nat->Nat->Nat
 | 0,_,acc=>acc
 | f+1,i,acc=>seen m f (nx m i) (acc ||| (1 <<< i))
theorem seen_bit (m j:Nat):∀ (f i acc:Nat),(seen m f i acc).testBit j=true->acc.testBit j=true\/∃ n,n<f/\itn m n i=j
 | 0,_,_,h=>.inl h
 | f+1,i,acc,h=>by
  rcases seen_bit m j f (nx m i) _ h with h|⟨n,hn,e⟩
  ·rw [Nat.testBit_or] at h
   cases hb:acc.testBit j with
   | true=>exact .inl rfl
   | false=>
    rw [hb,Bool.false_or,Nat.testBit_shiftLeft] at h
    refine .inr ⟨0,by omega,?_⟩
    simp at h
    have h2:Nat.testBit 1 (j - i)=true:=h.2
    rw [Nat.testBit_one_eq_true_iff_self_eq_zero] at h2
    show i=j
    omega
  ·exact .inr ⟨n+1,by omega,e⟩
noncomputable def covB (m:Nat):Bool:=seen m (m+1) 0 0 == 2 ^ (m+1) - 1&&itn m (m+1) 0 == 0
theorem cov_of {m:Nat}(h:covB m=true){i j:Nat}(hi:i<=m)(hj:j<=m):∃ n,n<=m/\itn m n i=j:=by
 unfold covB at h
 rw [Bool.and_eq_true,beq_iff_eq,beq_iff_eq] at h
 have from0:∀ j,j<=m->∃ n,n<m+1/\itn m n 0=j:=fun j hj=>by
  rcases seen_bit m j (m+1) 0 0 (by rw [h.1,Nat.testBit_two_pow_sub_one];simp;omega) with q|q
  ·simp at q
  ·exact q
 obtain ⟨a,ha,ea⟩:=from0 i hi
 obtain ⟨c,hc,ec⟩:=from0 j hj
 by_cases hac:a<=c
 ·refine ⟨c - a,by omega,?_⟩
  rw [<- ea,<- itn_add,show a+(c - a)=c by omega,ec]
 ·refine ⟨m+1 - a+c,by omega,?_⟩
  rw [<- ea,<- itn_add,show a+(m+1 - a+c)=m+1+c by omega,itn_add,h.2,ec]
theorem lp_q (m b:Nat):∀ n,(lp m b n).2=b / 32 ^ n
 | 0=>by simp [lp]
 | n+1=>by
  show (lp m b n).2 / 32=_
  rw [lp_q m b n,Nat.div_div_eq_div_mul,Nat.pow_succ]
theorem lp_le (m b:Nat):∀ n,(lp m b n).1<=m
 | 0=>Nat.le_of_lt_succ (Nat.mod_lt _ (Nat.succ_pos _))
 | n+1=>Nat.le_of_lt_succ (Nat.mod_lt _ (Nat.succ_pos _))
theorem lp_tail {m b:Nat}(hb:b<2 ^ 64):∀ n,lp m b (13+n)=(itn m n (lp m b 13).1,0):=by
 have h0:∀ n,13<=n->(lp m b n).2=0:=fun n hn=>by
  rw [lp_q]
  apply Nat.div_eq_of_lt
  refine Nat.lt_of_lt_of_le hb ?_
  have:(2:Nat) ^ 64<=32 ^ 13:=by decide
  exact Nat.le_trans this (Nat.pow_le_pow_right (by decide) hn)
 intro n
 have one:∀ n i,itn m (n+1) i=nx m (itn m n i):=fun n i=>by
  rw [itn_add];rfl
 induction n with
 | zero=>exact Prod.ext rfl (h0 13 (Nat.le_refl _))
 | succ n ih=>
  show leap m (lp m b (13+n)).1 (lp m b (13+n)).2=_
  rw [ih,one]
  simp [leap,nx]
theorem leaps_all {m b j:Nat}(hc:covB m=true)(hb:b<2 ^ 64)(hj:j<=m):∃ n,n<=m+13/\(lp m b n).1=j:=by
 obtain ⟨n,hn,e⟩:=cov_of hc (lp_le m b 13) hj
 exact ⟨13+n,by omega,by rw [lp_tail hb];exact e⟩
noncomputable def Reach (m:Nat)(S:List Nat)(b j:Nat):Prop:=∃ k,(pth m b k).j=j/\∀ k',k'<k->(pth m b k').j∈S
theorem Reach.mono {m b j:Nat}{S S':List Nat}(h:Reach m S b j)(hs:∀ x,x∈S->x∈S'):Reach m S' b j:=
 let ⟨k,e,a⟩:=h;⟨k,e,fun k' hk=>hs _ (a k' hk)⟩
theorem gap {m:Nat}{S:List Nat}(hs:S.length<=m):∃ j,j<=m/\j∉S:=by
 refine Classical.byContradiction fun h=>?_
 have all:∀ j,j<=m->j∈S:=fun j hj=>Classical.byContradiction fun q=>h ⟨j,hj,q⟩
 have:=List.Nodup.length_le_of_subset (l₁:=List.range (m+1)) (l₂:=S) List.nodup_range fun j hj=>all j (by simpa [Nat.lt_succ_iff] using hj)
 rw [List.length_range] at this
 omega
theorem below_go {xs:Array Nat}{j:Nat}(hr:∀ a b,a<b->b<xs.size->xs.getD a 0<xs.getD b 0):∀ (f lo hi:Nat),hi - lo<=f->lo<=hi->hi<=xs.size->(∀ i,i<lo->xs.getD i 0<j)->(∀ i,hi<=i->i<xs.size->j<=xs.getD i 0)->
  SetTable.below.go xs j f lo hi<=xs.size/\(∀ i,i<SetTable.below.go xs j f lo hi->xs.getD i 0<j)/\∀ i,SetTable.below.go xs j f lo hi<=i->i<xs.size->j<=xs.getD i 0
 | 0,lo,hi,hf,h1,h2,a,b=>by
  have e:lo=hi:=by omega
  show lo<=xs.size/\(∀ i,i<lo->_)/\∀ i,lo<=i->_
  exact ⟨by omega,a,by rw [e];exact b⟩
 | f+1,lo,hi,hf,h1,h2,a,b=>by
  unfold SetTable.below.go
  by_cases q:lo<hi
  ·rw [if_pos q]
   dsimp only
   have hm:(lo+hi) / 2<xs.size:=by omega
   have e:xs.getD ((lo+hi) / 2) j=xs.getD ((lo+hi) / 2) 0:=by simp [Array.getD,hm]
   rw [e]
   by_cases c:xs.getD ((lo+hi) / 2) 0<j
   ·rw [if_pos c]
    refine below_go hr f _ _ (by omega) (by omega) h2 (fun i hi'=>?_) b
    rcases Nat.lt_or_ge i ((lo+hi) / 2) with z|z
    ·exact Nat.lt_trans (hr _ _ z hm) c
    ·have:i=(lo+hi) / 2:=by omega
     rw [this];exact c
   ·rw [if_neg c]
    refine below_go hr f _ _ (by omega) (by omega) (by omega) a fun i hi' hs=>?_
    rcases Nat.lt_or_ge ((lo+hi) / 2) i with z|z
    ·have:=hr _ _ z hs;omega
    ·have:i=(lo+hi) / 2:=by omega
     rw [this];omega
  ·rw [if_neg q]
   exact ⟨by omega,a,fun i h hs=>b i (by omega) hs⟩
theorem rise_of {xs:Array Nat}(h:xs.toList.Pairwise (·<·)):∀ a b,a<b->b<xs.size->xs.getD a 0<xs.getD b 0:=fun a b hab hb=>by
 have:=List.pairwise_iff_getElem.mp h a b (by simpa using Nat.lt_trans hab hb) (by simpa using hb) hab
 simpa [Array.getD,hb,Nat.lt_trans hab hb] using this
theorem below_ok {xs:Array Nat}(h:xs.toList.Pairwise (·<·))(j:Nat):SetTable.below xs j<=xs.size/\(∀ i,i<SetTable.below xs j->xs.getD i 0<j)/\∀ i,SetTable.below xs j<=i->i<xs.size->j<=xs.getD i 0:=
 below_go (rise_of h) _ _ _ (by omega) (by omega) (Nat.le_refl _) (fun i z=>absurd z (Nat.not_lt_zero _)) fun i z z2=>by omega
noncomputable abbrev Row:=Nat×Int×Value
structure Ok (t:SetTable)(R:List Row):Prop where
 place:t.place.toList=R.map (·.1)
 dum:t.dummies = #[]
 rise:(R.map (·.1)).Pairwise (·<·)
 le:∀ r∈R,r.1<=t.mask
 cov:covB t.mask=true
 odd:t.mask % 2=1
 room:R.length<=t.mask
 road:∀ r∈R,Reach t.mask (R.map (·.1)) (bits r.2.1) r.1
section
variable {t:SetTable}{R:List Row}
theorem bits_lt (h:Int):bits h<2 ^ 64:=by
 unfold bits
 have h1:0<=h % (2 ^ 64:Int):=Int.emod_nonneg _ (by decide)
 have h2:h % (2 ^ 64:Int)<2 ^ 64:=Int.emod_lt_of_pos _ (by decide)
 omega
theorem Ok.size (o:Ok t R):t.place.size=R.length:=by
 have:=congrArg List.length o.place
 simpa using this
theorem Ok.uniq (o:Ok t R){r r':Row}(h:r∈R)(h':r'∈R)(e:r.1=r'.1):r=r':=by
 have p:=List.pairwise_map.mp o.rise
 obtain ⟨i,hi,e1⟩:=List.getElem_of_mem h
 obtain ⟨k,hk,e2⟩:=List.getElem_of_mem h'
 rcases Nat.lt_trichotomy i k with z|z|z
 ·have:=List.pairwise_iff_getElem.mp p i k hi hk z
  rw [e1,e2] at this;omega
 ·subst z;rw [<- e1,<- e2]
 ·have:=List.pairwise_iff_getElem.mp p k i hk hi z
  rw [e1,e2] at this;omega
theorem Ok.getD (o:Ok t R){i:Nat}(hi:i<R.length):t.place.getD i 0=(R[i]).1:=by
 have h:t.place.toList[i]? = (R.map (·.1))[i]?:=by rw [o.place]
 have hs:i<t.place.size:=by rw [o.size];exact hi
 simp [hi,hs] at h
 simp [Array.getD,hs,h]
theorem Ok.sorted (o:Ok t R):t.place.toList.Pairwise (·<·):=by rw [o.place];exact o.rise
theorem has_nil (j:Nat):SetTable.has #[] j=false:=by
 unfold SetTable.has
 simp
theorem Ok.live (o:Ok t R){j:Nat}(h:j∈R.map (·.1)):∃ i r,t.slot j=.live i/\R[i]? = some r/\r.1=j:=by
 obtain ⟨r,hr,e⟩:=List.mem_map.mp h
 obtain ⟨i,hi,ei⟩:=List.getElem_of_mem hr
 have b:=below_ok o.sorted j
 have hp:t.place.getD i 0=j:=by rw [o.getD hi,ei];exact e
 have hs:i<t.place.size:=by rw [o.size];exact hi
 have e2:SetTable.below t.place j=i:=by
  rcases Nat.lt_trichotomy (SetTable.below t.place j) i with z|z|z
  ·have h1:=b.2.2 _ (Nat.le_refl _) (by omega)
   have h2:=rise_of o.sorted _ _ z hs
   omega
  ·exact z
  ·have:=b.2.1 i z;omega
 refine ⟨i,r,?_,by rw [<- ei];exact List.getElem?_eq_getElem hi,e⟩
 unfold SetTable.slot
 dsimp only
 rw [e2,if_pos]
 have:t.place[i]? = some j:=by
  rw [Array.getElem?_eq_getElem hs]
  simpa [Array.getD,hs] using hp
 rw [this]
 exact beq_self_eq_true _
theorem Ok.empty (o:Ok t R){j:Nat}(h:j∉R.map (·.1)):t.slot j=.empty:=by
 unfold SetTable.slot
 dsimp only
 rw [if_neg,o.dum,has_nil]
 ·rfl
 ·intro q
  rw [beq_iff_eq] at q
  apply h
  rw [<- o.place]
  exact Array.mem_toList_iff.mpr (Array.mem_of_getElem? q)
theorem pth_dummy (m b:Nat):∀ k,(pth m b k).dummy=none
 | 0=>rfl
 | k+1=>by
  show (adv m (pth m b k)).dummy=none
  unfold adv
  split<;>exact pth_dummy m b k
theorem Ok.go (o:Ok t R)(hashAt:Nat->Int)(hh:∀ i r,R[i]? = some r->hashAt i=r.2.1){h:Int}{K:Nat}(hK:(pth t.mask (bits h) K).j∉R.map (·.1))(hT:∀ k',k'<K->(pth t.mask (bits h) k').j∈R.map (·.1)) :
  ∀ (f k:Nat),k<=K->K<k+f->
   (SetTable.probe.go t hashAt h f (pth t.mask (bits h) k)=some (.empty (pth t.mask (bits h) K).j none)/\∀ k' r,k<=k'->k'<K->r∈R->r.1=(pth t.mask (bits h) k').j->r.2.1≠h) \/
   ∃ k' i r,k<=k'/\k'<K/\R[i]? = some r/\r.1=(pth t.mask (bits h) k').j/\r.2.1=h/\SetTable.probe.go t hashAt h f (pth t.mask (bits h) k)=some (.candidate (pth t.mask (bits h) k').j i (pth t.mask (bits h) (k'+1))) /\
    ∀ k'' r',k<=k''->k''<k'->r'∈R->r'.1=(pth t.mask (bits h) k'').j->r'.2.1≠h
 | 0,k,h1,h2=>by omega
 | f+1,k,h1,h2=>by
  rcases Nat.lt_or_ge k K with z|z
  ·obtain ⟨i,r,e,er,ej⟩:=o.live (hT k z)
   have eg:SetTable.probe.go t hashAt h (f+1) (pth t.mask (bits h) k)=if hashAt i == h then some (.candidate (pth t.mask (bits h) k).j i (pth t.mask (bits h) (k+1))) else SetTable.probe.go t hashAt h f (pth t.mask (bits h) (k+1)):=by
    show (match t.slot (pth t.mask (bits h) k).j with|.empty=>_|.dummy=>_|.live i=>_)=_
    rw [e]
    rfl
   rw [eg,hh i r er]
   have hrm:r∈R:=List.mem_of_getElem? er
   by_cases q:r.2.1=h
   ·refine .inr ⟨k,i,r,Nat.le_refl _,z,er,ej,q,?_,fun k'' r' a b=>by omega⟩
    rw [q,if_pos (beq_self_eq_true _)]
   ·rw [if_neg (by simpa using q)]
    have here:∀ r',r'∈R->r'.1=(pth t.mask (bits h) k).j->r'.2.1≠h:=fun r' hr' e'=>by
     rw [o.uniq hr' hrm (e'.trans ej.symm)];exact q
    rcases Ok.go o hashAt hh hK hT f (k+1) z (by omega) with ⟨a,b⟩|⟨k',i',r',a1,a2,a3,a4,a5,a6,a7⟩
    ·refine .inl ⟨a,fun k' r' c1 c2 hr' e'=>?_⟩
     rcases Nat.lt_or_ge k k' with y|y
     ·exact b k' r' y c2 hr' e'
     ·have:k'=k:=by omega
      subst this;exact here r' hr' e'
    ·refine .inr ⟨k',i',r',by omega,a2,a3,a4,a5,a6,fun k'' r'' c1 c2 hr' e'=>?_⟩
     rcases Nat.lt_or_ge k k'' with y|y
     ·exact a7 k'' r'' y c2 hr' e'
     ·have:k''=k:=by omega
      subst this;exact here r'' hr' e'
  ·have:k=K:=by omega
   subst this
   refine .inl ⟨?_,fun k' r a b=>by omega⟩
   show (match t.slot (pth t.mask (bits h) k).j with|.empty=>_|.dummy=>_|.live i=>_)=_
   rw [o.empty hK]
   show some (Met.empty _ (pth t.mask (bits h) k).dummy)=_
   rw [pth_dummy]
end
noncomputable def lv (m:Nat)(ow:Array (Option Nat)):List (Nat×Nat):=(List.range (m+1)).filterMap fun j=>(ow.getD j none).map (j,·)
theorem mem_lv {m:Nat}{ow:Array (Option Nat)}{j i:Nat}:(j,i)∈lv m ow↔j<=m/\ow.getD j none=some i:=by
 unfold lv
 rw [List.mem_filterMap]
 constructor
 ·rintro ⟨a,ha,e⟩
  rw [Option.map_eq_some_iff] at e
  obtain ⟨b,e1,e2⟩:=e
  cases e2
  exact ⟨by simpa [Nat.lt_succ_iff] using ha,e1⟩
 ·rintro ⟨h1,h2⟩
  exact ⟨j,by simpa [Nat.lt_succ_iff] using h1,by rw [h2];rfl⟩
theorem lv_rise (m:Nat)(ow:Array (Option Nat)):((lv m ow).map (·.1)).Pairwise (·<·):=by
 rw [List.pairwise_map]
 unfold lv
 refine List.Pairwise.filterMap (R:=(·<·)) _ (fun a a' h b hb b' hb'=>?_) List.pairwise_lt_range
 rw [Option.map_eq_some_iff] at hb hb'
 obtain ⟨_,_,e⟩:=hb
 obtain ⟨_,_,e'⟩:=hb'
 rw [<- e,<- e']
 exact h
structure Ow (m:Nat)(ds:List Int)(ow:Array (Option Nat)):Prop where
 size:ow.size=m+1
 lt:∀ j i,ow.getD j none=some i->i<ds.length
 all:∀ i,i<ds.length->∃ j,ow.getD j none=some i
 inj:∀ j j' i,ow.getD j none=some i->ow.getD j' none=some i->j=j'
 road:∀ j i,ow.getD j none=some i->Reach m ((lv m ow).map (·.1)) (bits (ds.getD i 0)) j
section
variable {m:Nat}{ds:List Int}{ow:Array (Option Nat)}
theorem Ow.le (o:Ow m ds ow){j i:Nat}(h:ow.getD j none=some i):j<=m:=by
 rcases Nat.lt_or_ge j ow.size with z|z
 ·rw [o.size] at z;omega
 ·simp [Array.getD,Nat.not_lt.mpr z] at h
theorem Ow.taken (o:Ow m ds ow){j:Nat}(hj:j<=m):j∈(lv m ow).map (·.1)↔(ow.getD j (some 0)).isNone=false:=by
 have hs:j<ow.size:=by rw [o.size];omega
 have e:ow.getD j (some 0)=ow.getD j none:=by simp [Array.getD,hs]
 rw [e]
 constructor
 ·intro q
  obtain ⟨⟨a,i⟩,q2,rfl⟩:=List.mem_map.mp q
  rw [(mem_lv.mp q2).2];rfl
 ·intro q
  cases z:ow.getD j none with
  | none=>rw [z] at q;cases q
  | some i=>exact List.mem_map.mpr ⟨(j,i),mem_lv.mpr ⟨hj,z⟩,rfl⟩
theorem Ow.perm (o:Ow m ds ow):((lv m ow).map (·.2)).Perm (List.range ds.length):=by
 have nd:((lv m ow).map (·.2)).Nodup:=by
  have p:=List.pairwise_map.mp (lv_rise m ow)
  unfold List.Nodup
  rw [List.pairwise_map]
  refine p.imp_of_mem fun {a b} ha hb hab e=>?_
  obtain ⟨a1,a2⟩:=a
  obtain ⟨b1,b2⟩:=b
  have:=o.inj a1 b1 a2 (mem_lv.mp ha).2 (by have:=(mem_lv.mp hb).2;rw [this];exact congrArg some e.symm)
  exact Nat.lt_irrefl _ (this ▸ hab)
 refine (List.perm_ext_iff_of_nodup nd List.nodup_range).mpr fun i=>?_
 rw [List.mem_range]
 constructor
 ·intro q
  obtain ⟨⟨a,i⟩,q2,rfl⟩:=List.mem_map.mp q
  exact o.lt a i (mem_lv.mp q2).2
 ·intro q
  obtain ⟨j,e⟩:=o.all i q
  exact List.mem_map.mpr ⟨(j,i),mem_lv.mpr ⟨o.le e,e⟩,rfl⟩
theorem Ow.count (o:Ow m ds ow):(lv m ow).length=ds.length:=by
 have:=o.perm.length_eq
 simpa using this
theorem Ow.free (o:Ow m ds ow){b:Nat}:∀ (f n k0:Nat),pth m b k0=hd m (lp m b n).1 (lp m b n).2->(∀ k',k'<k0->(pth m b k').j∈(lv m ow).map (·.1))->(∃ N,n<=N/\N<n+f/\(lp m b N).1∉(lv m ow).map (·.1))->
  ∃ j,SetTable.layClean.free m ow f (lp m b n).1 (lp m b n).2=some j/\j<=m/\j∉(lv m ow).map (·.1)/\Reach m ((lv m ow).map (·.1)) b j
 | 0,n,k0,_,_,⟨N,h1,h2,_⟩=>by omega
 | f+1,n,k0,hk,ht,⟨N,h1,h2,hN⟩=>by
  have hi:=lp_le m b n
  have hre:runEnd m (lp m b n).1<=m:=by unfold runEnd;split<;>omega
  have hri:(lp m b n).1<=runEnd m (lp m b n).1:=by unfold runEnd;split<;>omega
  unfold SetTable.layClean.free
  cases z:(List.range (runEnd m (lp m b n).1+1 - (lp m b n).1)).find? fun k=>(ow.getD ((lp m b n).1+k) (some 0)).isNone with
  | some r=>
   rw [List.find?_range_eq_some] at z
   obtain ⟨z1,z2,z3⟩:=z
   rw [List.mem_range] at z2
   refine ⟨(lp m b n).1+r,rfl,by omega,fun q=>?_,k0+r,by rw [pth_run hk r (by omega)],fun k' hk'=>?_⟩
   ·rw [o.taken (by omega)] at q
    rw [q] at z1;cases z1
   ·rcases Nat.lt_or_ge k' k0 with y|y
    ·exact ht k' y
    ·obtain ⟨d,rfl⟩:=Nat.exists_eq_add_of_le y
     rw [pth_run hk d (by omega)]
     show (lp m b n).1+d∈_
     rw [o.taken (by omega)]
     have:=z3 d (by omega)
     simpa using this
  | none=>
   rw [List.find?_range_eq_none] at z
   have tk:∀ r,r<runEnd m (lp m b n).1+1 - (lp m b n).1->(lp m b n).1+r∈(lv m ow).map (·.1):=fun r hr=>by
    rw [o.taken (by omega)]
    have:=z r hr
    simpa using this
   have ne:N≠n:=fun e=>hN (by rw [e];exact tk 0 (by omega))
   refine Ow.free o f (n+1) _ (pth_leap hk) (fun k' hk'=>?_) ⟨N,by omega,by omega,hN⟩
   rcases Nat.lt_or_ge k' k0 with y|y
   ·exact ht k' y
   ·obtain ⟨d,rfl⟩:=Nat.exists_eq_add_of_le y
    rw [pth_run hk d (by omega)]
    exact tk d (by omega)
theorem Ow.step (o:Ow m ds ow)(hc:covB m=true)(hl:ds.length<=m)(h:Int):∃ j,SetTable.layClean.free m ow (turns m) (bits h % (m+1)) (bits h)=some j/\Ow m (ds++[h]) (ow.setIfInBounds j (some ds.length)):=by
 obtain ⟨g,hg,hgn⟩:=gap (m:=m) (S:=(lv m ow).map (·.1)) (by rw [List.length_map,o.count];exact hl)
 obtain ⟨N,hN,eN⟩:=leaps_all hc (bits_lt h) hg
 obtain ⟨j,e,hj,hjn,hr⟩:=o.free (b:=bits h) (turns m) 0 0 rfl (fun k' z=>absurd z (Nat.not_lt_zero _)) ⟨N,Nat.zero_le _,by unfold turns;omega,by rw [eN];exact hgn⟩
 have hjs:j<ow.size:=by rw [o.size];omega
 have get:∀ k,(ow.setIfInBounds j (some ds.length)).getD k none=if k=j then some ds.length else ow.getD k none:=fun k=>by
  by_cases q:k=j
  ·subst q;simp [Array.getD,hjs]
  ·rw [if_neg q]
   simp [Array.getD]
   split
   ·rw [Array.getElem_setIfInBounds]
    rw [if_neg (Ne.symm q)]
   ·rfl
 have was:ow.getD j none=none:=by
  cases z:ow.getD j none with
  | none=>rfl
  | some i=>exact absurd (List.mem_map.mpr ⟨(j,i),mem_lv.mpr ⟨hj,z⟩,rfl⟩) hjn
 have sub:∀ y,y∈(lv m ow).map (·.1)->y∈(lv m (ow.setIfInBounds j (some ds.length))).map (·.1):=fun y hy=>by
  obtain ⟨⟨a,i⟩,q,rfl⟩:=List.mem_map.mp hy
  have q2:=mem_lv.mp q
  refine List.mem_map.mpr ⟨(a,i),mem_lv.mpr ⟨q2.1,?_⟩,rfl⟩
  rw [get,if_neg (fun z=>by rw [z,was] at q2;cases q2.2)]
  exact q2.2
 refine ⟨j,e,⟨by rw [Array.size_setIfInBounds];exact o.size,fun k i hk=>?_,fun i hi=>?_,fun k k' i h1 h2=>?_,fun k i hk=>?_⟩⟩
 ·rw [get] at hk
  rw [List.length_append,List.length_singleton]
  by_cases q:k=j
  ·rw [if_pos q] at hk;cases hk;omega
  ·rw [if_neg q] at hk;have:=o.lt k i hk;omega
 ·rw [List.length_append,List.length_singleton] at hi
  by_cases q:i=ds.length
  ·exact ⟨j,by rw [get,if_pos rfl,q]⟩
  ·obtain ⟨k,hk⟩:=o.all i (by omega)
   exact ⟨k,by rw [get,if_neg (fun z=>by rw [z,was] at hk;cases hk)];exact hk⟩
 ·rw [get] at h1 h2
  by_cases q:k=j
  ·by_cases q':k'=j
   ·rw [q,q']
   ·rw [if_pos q] at h1;rw [if_neg q'] at h2
    cases h1;exact absurd (o.lt k' _ h2) (Nat.lt_irrefl _)
  ·by_cases q':k'=j
   ·rw [if_neg q] at h1;rw [if_pos q'] at h2
    cases h2;exact absurd (o.lt k _ h1) (Nat.lt_irrefl _)
   ·rw [if_neg q] at h1;rw [if_neg q'] at h2
    exact o.inj k k' i h1 h2
 ·rw [get] at hk
  by_cases q:k=j
  ·rw [if_pos q] at hk;cases hk
   rw [q]
   have:(ds++[h]).getD ds.length 0=h:=by simp [List.getD]
   rw [this]
   exact hr.mono sub
  ·rw [if_neg q] at hk
   have hi:=o.lt k i hk
   have:(ds++[h]).getD i 0=ds.getD i 0:=by simp [List.getD,List.getElem?_append_left hi]
   rw [this]
   exact (o.road k i hk).mono sub
end
theorem Ow.nil (m:Nat):Ow m [] (Array.replicate (m+1) none):=by
 have e:∀ j,(Array.replicate (m+1) (none:Option Nat)).getD j none=none:=fun j=>by
  simp [Array.getD]
 have no:∀ {P:Prop}(j i:Nat),(Array.replicate (m+1) (none:Option Nat)).getD j none=some i->P:=fun j i h=>by
  rw [e] at h;exact nomatch h
 exact ⟨by simp,fun j i h=>no j i h,fun i h=>absurd h (Nat.not_lt_zero _),fun j j' i h _=>no j i h,fun j i h=>no j i h⟩
end Tb
end L3
namespace L3
open PySem
open PySem.SetTable (Probe Met Slot bits runEnd leap turns insertAt sizeAbove)
namespace Tb
section
variable {prog:Program}{w:World}{K:Type} [DecidableEq K] {knd:KeyKind prog w K}{A:Around}{E:Value->Shared->Prop}{s:Shared}
end
section
variable {prog:Program}{w:World}{A:Around}{E:Value->Shared->Prop}{s:Shared}
noncomputable abbrev El:=List Int×Addr
noncomputable def hashT (k:List Int):Int:=reduceHash (Builtin.Tuple.tupleHashOf (k.map hashInt))
noncomputable def ent0 (p:El):Int×Value:=(hashT p.1,Value.ref p.2)
noncomputable def Msk (m:Nat):Prop:=m=7\/m=31\/m=127\/m=511
theorem Msk.cov {m:Nat}(h:Msk m):covB m=true:=by
 rcases h with rfl|rfl|rfl|rfl<;>decide +kernel
theorem Msk.odd {m:Nat}(h:Msk m):m % 2=1:=by
 rcases h with rfl|rfl|rfl|rfl<;>rfl
noncomputable def byText (w:World):Bool:=w.params.followText "set-order"
noncomputable def SObjL (led:Bool)(L:List El)(o:Obj):Prop:=∃ es ep t R,o.ExactSet/\o.data=.set es ep t/\es.toList=R.map (·.2)/\Ok t R/\es.toList.Perm (L.map ent0)/\(L.map (·.1)).Nodup/\Msk t.mask/\L.length * 5<t.mask * 3/\t.plain=true/\t.led=led
noncomputable def SObj (L:List El)(o:Obj):Prop:=∃ led,SObjL led L o
noncomputable def TSet (prog:Program)(w:World)(h:Heap)(a:Addr)(L:List El):Prop:=∃ o,h.get? a=some o/\SObjL (!byText w) L o/\∀ p∈L,IsTupleKey (intKind prog w) h p.1 p.2
end
end Tb
end L3
namespace L3
open PySem
namespace Tb
noncomputable def slotAt (w:World)(t:SetTable):Nat->Nat
 | 0=>0
 | i+1=>if byText w then 0 else t.place.getD i 0+1
section
variable {prog:Program}{w:World}{A:Around}{E:Value->Shared->Prop}{s:Shared}
noncomputable def SIt (w:World)(h:Heap)(I a:Addr)(t:SetTable)(i n ep:Nat):Prop:=∃ o,h.get? I=some o/\o.cls=.type "set_iterator"/\o.data=.fields #[rawInt (slotAt w t i),rawInt i,.ref a,rawInt n,rawInt ep]
theorem SIt.ty {I a:Addr}{t:SetTable}{i n ep:Nat}(x:SIt w s.heap I a t i n ep):s.TypeIs (.ref I) "set_iterator":=let ⟨o,ho,hc,_⟩:=x;⟨o,ho,hc⟩
structure SAt (w:World)(h:Heap)(a:Addr)(es:Array (Int×Value))(ep:Nat)(t:SetTable)(R:List Row):Prop where
 at_:∃ o,h.get? a=some o/\o.cls=.type "set"/\o.data=.set es ep t
 he:es.toList=R.map (·.2)
 ok:Ok t R
 pl:t.plain=true
 led:t.led = !byText w
theorem SAt.ty {a:Addr}{es:Array (Int×Value)}{ep:Nat}{t:SetTable}{R:List Row}(x:SAt w s.heap a es ep t R):s.TypeIs (.ref a) "set":=let ⟨o,ho,hc,_⟩:=x.at_;⟨o,ho,hc⟩
end
end Tb
end L3
namespace L3
open PySem L2
inductive D where
 | non|bl (b:Bool)|int (i:Int)|str (x:Str)|tup (xs:List D)|rol (xs:List D)|loc (a:Nat)|ty (n:String)
 deriving Inhabited
inductive C where
 | lst (xs:List D)
 | dK (kvs:List (Key×D))
 | st (ks:List (List Int))
 deriving Inhabited
noncomputable abbrev Hm:=List C
noncomputable abbrev Rho:=List (Option D)
noncomputable abbrev ME:=Rho->Hm->Option (D×Hm)
noncomputable abbrev MT:=Rho->Hm->Option (Bool×Hm)
noncomputable abbrev MA:=Rho->Hm->Option (List D×Hm)
inductive Fl where
 | nx|rt (d:D)|bk|ct
noncomputable abbrev MS:=Rho->Hm->Option (Fl×Rho×Hm)
noncomputable abbrev MF:=List D->Hm->Option (D×Hm)
noncomputable def RoL (K:PySem.W.Frag)(H:Hp)(p:Addr)(xs:List V):Prop:=
 (∃ o,H p=some (.frz o (.lst xs))) \/
  ∃ (o:Obj)(its:Array Value)(n:Nat),K.lookup p=some o/\o.cls=.type "list"/\o.dict=none/\o.data=.seq its n/\its.size<=sizeLine/\Vals xs its.toList
theorem RoL.sq {K:PySem.W.Frag}{H:Hp}{p:Addr}{xs:List V}(h:RoL K H p xs):SqL K H p xs:=by
 rcases h with ⟨o,h⟩|h
 ·exact .inl (.inr ⟨o,h⟩)
 ·exact .inr h
mutual
inductive IsD (K:PySem.W.Frag)(π:Nat->Addr)(n:Nat)(H:Hp):V->D->Prop where
 | non:IsD K π n H .non .non
 | bl (b:Bool):IsD K π n H (.bl b) (.bl b)
 | int (i:Int):IsD K π n H (.int i) (.int i)
 | str (x:Str):IsD K π n H (.str x) (.str x)
 | tup {p:Addr}{vs:List V}{ds:List D}(h:SqT K H p vs)(t:IsDs K π n H vs ds):IsD K π n H (.ref p) (.tup ds)
 | rol {p:Addr}{vs:List V}{ds:List D}(h:RoL K H p vs)(t:IsDs K π n H vs ds):IsD K π n H (.ref p) (.rol ds)
 | loc {a:Nat}(h:a<n):IsD K π n H (.ref (π a)) (.loc a)
 | ty (x:String):IsD K π n H (.ty x) (.ty x)
inductive IsDs (K:PySem.W.Frag)(π:Nat->Addr)(n:Nat)(H:Hp):List V->List D->Prop where
 | nil:IsDs K π n H [] []
 | cons {v:V}{d:D}{vs:List V}{ds:List D}(h:IsD K π n H v d)(t:IsDs K π n H vs ds):IsDs K π n H (v::vs) (d::ds)
end
structure Ext (π:Nat->Addr)(n:Nat)(H:Hp)(π':Nat->Addr)(n':Nat)(H':Hp):Prop where
 le:n<=n'
 pi:∀ a,a<n->π' a=π a
 tup:∀ p vs,H p=some (.tup vs)->H' p=some (.tup vs)
 frz:∀ p o u,H p=some (.frz o u)->H' p=some (.frz o u)
structure Ext0 (π:Nat->Addr)(n:Nat)(H:Hp)(π':Nat->Addr)(n':Nat)(H':Hp):Prop where
 le:n<=n'
 pi:∀ a,a<n->π' a=π a
 tup:∀ p vs,H p=some (.tup vs)->H' p=some (.tup vs)
 frz:∀ p o u,(∀ φ,u≠HO.ext φ)->H p=some (.frz o u)->H' p=some (.frz o u)
section
variable {K:PySem.W.Frag}{π π' π2:Nat->Addr}{n n' n2:Nat}{H H' H2:Hp}
theorem Ext.weak (e:Ext π n H π' n' H'):Ext0 π n H π' n' H':=⟨e.le,e.pi,e.tup,fun p o u _ h=>e.frz p o u h⟩
theorem Ext.refl:Ext π n H π n H:=⟨Nat.le_refl _,fun _ _=>rfl,fun _ _ h=>h,fun _ _ _ h=>h⟩
theorem Ext.trans (a:Ext π n H π' n' H')(b:Ext π' n' H' π2 n2 H2):Ext π n H π2 n2 H2:=
 ⟨Nat.le_trans a.le b.le,fun i h=>(b.pi i (Nat.lt_of_lt_of_le h a.le)).trans (a.pi i h),fun p vs h=>b.tup p vs (a.tup p vs h),fun p o u h=>b.frz p o u (a.frz p o u h)⟩
theorem Ext0.sqT (e:Ext0 π n H π' n' H'){p:Addr}{vs:List V}(h:SqT K H p vs):SqT K H' p vs:=by
 rcases h with h|h
 ·rcases h with h|⟨o,h⟩
  ·exact .inl (.inl (e.tup _ _ h))
  ·exact .inl (.inr ⟨o,e.frz _ _ _ (fun _ z=>nomatch z) h⟩)
 ·exact .inr h
theorem Ext.sqT (e:Ext π n H π' n' H'){p:Addr}{vs:List V}(h:SqT K H p vs):SqT K H' p vs:=e.weak.sqT h
theorem Ext0.roL (e:Ext0 π n H π' n' H'){p:Addr}{vs:List V}(h:RoL K H p vs):RoL K H' p vs:=by
 rcases h with ⟨o,h⟩|h
 ·exact .inl ⟨o,e.frz _ _ _ (fun _ z=>nomatch z) h⟩
 ·exact .inr h
theorem Ext.roL (e:Ext π n H π' n' H'){p:Addr}{vs:List V}(h:RoL K H p vs):RoL K H' p vs:=e.weak.roL h
mutual
theorem IsD.mono0 {v:V}{d:D}(e:Ext0 π n H π' n' H'):IsD K π n H v d->IsD K π' n' H' v d
 | .non=>.non
 | .bl b=>.bl b
 | .int i=>.int i
 | .str x=>.str x
 | .ty x=>.ty x
 | .tup h t=>.tup (e.sqT h) (IsDs.mono0 e t)
 | .rol h t=>.rol (e.roL h) (IsDs.mono0 e t)
 | .loc h=>by
  rw [<- e.pi _ h]
  exact .loc (Nat.lt_of_lt_of_le h e.le)
theorem IsDs.mono0 {vs:List V}{ds:List D}(e:Ext0 π n H π' n' H'):IsDs K π n H vs ds->IsDs K π' n' H' vs ds
 | .nil=>.nil
 | .cons h t=>.cons (IsD.mono0 e h) (IsDs.mono0 e t)
end
theorem IsD.mono {v:V}{d:D}(e:Ext π n H π' n' H')(h:IsD K π n H v d):IsD K π' n' H' v d:=h.mono0 e.weak
theorem IsDs.mono {vs:List V}{ds:List D}(e:Ext π n H π' n' H')(h:IsDs K π n H vs ds):IsDs K π' n' H' vs ds:=h.mono0 e.weak
theorem IsDs.length {vs:List V}{ds:List D}(h:IsDs K π n H vs ds):vs.length=ds.length:=by
 induction ds generalizing vs with
 | nil=>cases h;rfl
 | cons d ds ih=>
  cases h with
  | cons h t=>rw [List.length_cons,List.length_cons,ih t]
theorem IsDs.get {vs:List V}{ds:List D}(h:IsDs K π n H vs ds){i:Nat}{d:D}(e:ds[i]? = some d):∃ v,vs[i]? = some v/\IsD K π n H v d:=by
 induction ds generalizing vs i with
 | nil=>simp at e
 | cons d' ds ih=>
  cases h with
  | cons h t=>
   cases i with
   | zero=>
    simp at e
    subst e
    exact ⟨_,rfl,h⟩
   | succ i=>
    obtain ⟨v,h1,h2⟩:=ih t (by simpa using e)
    exact ⟨v,by simpa using h1,h2⟩
theorem IsDs.append {vs ws:List V}{ds es:List D}(h:IsDs K π n H vs ds)(h2:IsDs K π n H ws es):IsDs K π n H (vs++ws) (ds++es):=by
 induction ds generalizing vs with
 | nil=>cases h;exact h2
 | cons d ds ih=>
  cases h with
  | cons h t=>exact .cons h (ih t)
theorem IsDs.drop {vs:List V}{ds:List D}(h:IsDs K π n H vs ds)(k:Nat):IsDs K π n H (vs.drop k) (ds.drop k):=by
 induction ds generalizing vs k with
 | nil=>cases h;simpa using IsDs.nil
 | cons d ds ih=>
  cases h with
  | cons h t=>
   cases k with
   | zero=>exact .cons h t
   | succ k=>exact ih t k
theorem IsDs.take {vs:List V}{ds:List D}(h:IsDs K π n H vs ds)(k:Nat):IsDs K π n H (vs.take k) (ds.take k):=by
 induction ds generalizing vs k with
 | nil=>cases h;simpa using IsDs.nil
 | cons d ds ih=>
  cases h with
  | cons h t=>
   cases k with
   | zero=>exact .nil
   | succ k=>exact .cons h (ih t k)
theorem IsDs.atI {vs:List V}{ds:List D}(h:IsDs K π n H vs ds){i:Int}{d:D}(e:L2.atI ds i=some d):∃ v,L2.atI vs i=some v/\IsD K π n H v d:=by
 unfold L2.atI at e ⊢
 rw [h.length]
 cases q:ixN ds.length i with
 | none=>rw [q] at e;cases e
 | some j=>
  rw [q] at e
  exact h.get e
end
noncomputable def SetT (p:Addr)(L:List Tb.El):HO:=.ext fun h=>∃ o,h.get? p=some o/\Tb.SObj L o
structure Rp (K:PySem.W.Frag)(π:Nat->Addr)(H:Hp)(μ:Hm):Prop where
 inj:∀ a b,a<μ.length->b<μ.length->π a=π b->a=b
 has:∀ a,a<μ.length->(H (π a)).isSome=true
 lst:∀ a xs,μ[a]? = some (.lst xs)->∃ vs,H (π a)=some (.lst vs)/\IsDs K π μ.length H vs xs
 dK:∀ a kvs,μ[a]? = some (.dK kvs)->∃ vs,H (π a)=some (.dK vs)/\vs.map (·.1)=kvs.map (·.1)/\IsDs K π μ.length H (vs.map (·.2)) (kvs.map (·.2))
 st:∀ a ks,μ[a]? = some (.st ks)->∃ L:List Tb.El,H (π a)=some (SetT (π a) L)/\L.map (·.1)=ks/\IsDs K π μ.length H (L.map fun p=>V.ref p.2) (ks.map fun k=>D.tup (k.map D.int))
structure En (K:PySem.W.Frag)(π:Nat->Addr)(n:Nat)(H:Hp)(σ:St)(ρ:Rho):Prop where
 len:σ.length=ρ.length
 get:∀ (i:Nat)(d:D),ρ[i]? = some (some d)->∃ v,σ[i]? = some (some v)/\IsD K π n H v d
section
variable {K:PySem.W.Frag}{π π' π2:Nat->Addr}{n n' n2:Nat}{H H' H2:Hp}{μ μ':Hm}{σ:St}{ρ:Rho}
theorem En.mono (E:En K π n H σ ρ)(e:Ext π n H π' n' H'):En K π' n' H' σ ρ:=
 ⟨E.len,fun i d h=>let ⟨v,h1,h2⟩:=E.get i d h;⟨v,h1,h2.mono e⟩⟩
theorem En.set (E:En K π n H σ ρ){v:V}{d:D}(h:IsD K π n H v d)(i:Nat):En K π n H (σ.set i (some v)) (ρ.set i (some d)):=by
 refine ⟨by rw [List.length_set,List.length_set];exact E.len,fun j d' e=>?_⟩
 rw [List.getElem?_set] at e ⊢
 by_cases hij:i=j
 ·subst hij
  rw [if_pos rfl] at e ⊢
  rw [E.len]
  by_cases hl:i<ρ.length
  ·rw [if_pos hl] at e ⊢
   cases e
   exact ⟨v,rfl,h⟩
  ·rw [if_neg hl] at e
   cases e
 ·rw [if_neg hij] at e ⊢
  exact E.get j d' e
theorem Rp.ne {p:Addr}(R:Rp K π H μ)(h:H p=none){a:Nat}(ha:a<μ.length):π a≠p:=fun e=>by
 have:=R.has a ha
 rw [e,h] at this
 cases this
theorem Rp.fresh {p:Addr}{o:HO}(R:Rp K π H μ)(h:H p=none):Ext π μ.length H π μ.length (upd H p o)/\Rp K π (upd H p o) μ:=by
 have keep:∀ b u,H b=some u->upd H p o b=some u:=fun b u e=>by
  rw [upd_ne (ne_of_none e h)]
  exact e
 have e:Ext π μ.length H π μ.length (upd H p o):=⟨Nat.le_refl _,fun _ _=>rfl,fun q vs e=>keep q _ e,fun q o u e=>keep q _ e⟩
 refine ⟨e,R.inj,fun a ha=>?_,fun a xs ha=>?_,fun a kvs ha=>?_,fun a ks ha=>?_
  ⟩
 ·rw [upd_ne (R.ne h ha)]
  exact R.has a ha
 ·obtain ⟨vs,h1,h2⟩:=R.lst a xs ha
  exact ⟨vs,keep _ _ h1,h2.mono e⟩
 ·obtain ⟨vs,h1,h2,h3⟩:=R.dK a kvs ha
  exact ⟨vs,keep _ _ h1,h2,h3.mono e⟩
 ·obtain ⟨vs,h1,h2,h3⟩:=R.st a ks ha
  exact ⟨vs,keep _ _ h1,h2,h3.mono e⟩
noncomputable def CellIs (K:PySem.W.Frag)(π:Nat->Addr)(n:Nat)(H:Hp)(p:Addr):C->HO->Prop
 | .lst xs,.lst vs=>IsDs K π n H vs xs
 | .dK kvs,.dK vs=>vs.map (·.1)=kvs.map (·.1)/\IsDs K π n H (vs.map (·.2)) (kvs.map (·.2))
 | .st ks,o=>∃ L:List Tb.El,o=SetT p L/\L.map (·.1)=ks/\IsDs K π n H (L.map fun p=>V.ref p.2) (ks.map fun k=>D.tup (k.map D.int))
 | _,_=>False
noncomputable def ext1 (π:Nat->Addr)(n:Nat)(p:Addr):Nat->Addr:=fun a=>if a=n then p else π a
theorem Rp.alloc {p:Addr}{c:C}{o:HO}(R:Rp K π H μ)(h:H p=none)(hc:CellIs K π μ.length H p c o) :
  Ext π μ.length H (ext1 π μ.length p) (μ++[c]).length (upd H p o)/\Rp K (ext1 π μ.length p) (upd H p o) (μ++[c])/\ext1 π μ.length p μ.length=p:=by
 have hl:(μ++[c]).length=μ.length+1:=by simp
 have keep:∀ b u,H b=some u->upd H p o b=some u:=fun b u e=>by
  rw [upd_ne (ne_of_none e h)]
  exact e
 have pn:ext1 π μ.length p μ.length=p:=if_pos rfl
 have po:∀ a,a<μ.length->ext1 π μ.length p a=π a:=fun a ha=>if_neg (Nat.ne_of_lt ha)
 have e:Ext π μ.length H (ext1 π μ.length p) (μ++[c]).length (upd H p o):=⟨by rw [hl];exact Nat.le_succ _,po,fun q vs e=>keep q _ e,fun q o u e=>keep q _ e⟩
 have split:∀ a,a<(μ++[c]).length->a<μ.length\/a=μ.length:=fun a ha=>by rw [hl] at ha;omega
 have get:∀ a,a<μ.length->(μ++[c])[a]? = μ[a]?:=fun a ha=>List.getElem?_append_left ha
 have getn:(μ++[c])[μ.length]? = some c:=by simp
 refine ⟨e,⟨fun a b ha hb q=>?_,fun a ha=>?_,fun a xs ha=>?_,fun a kvs ha=>?_,fun a ks ha=>?_
  ⟩,pn⟩
 ·rcases split a ha with ha|rfl<;>rcases split b hb with hb|rfl
  ·rw [po a ha,po b hb] at q
   exact R.inj a b ha hb q
  ·rw [po a ha,pn] at q
   exact absurd q (R.ne h ha)
  ·rw [pn,po b hb] at q
   exact absurd q.symm (R.ne h hb)
  ·rfl
 ·rcases split a ha with ha|rfl
  ·rw [po a ha,upd_ne (R.ne h ha)]
   exact R.has a ha
  ·rw [pn,upd_same]
   rfl
 ·have hlt:a<(μ++[c]).length:=(List.getElem?_eq_some_iff.mp ha).1
  rcases split a hlt with h1|rfl
  ·rw [get a h1] at ha
   obtain ⟨vs,h2,h3⟩:=R.lst a xs ha
   rw [po a h1]
   exact ⟨vs,keep _ _ h2,h3.mono e⟩
  ·rw [getn] at ha
   cases ha
   cases o with
   | lst vs=>
    rw [pn]
    exact ⟨vs,upd_same,IsDs.mono e hc⟩
   | _=>exact False.elim hc
 ·have hlt:a<(μ++[c]).length:=(List.getElem?_eq_some_iff.mp ha).1
  rcases split a hlt with h1|rfl
  ·rw [get a h1] at ha
   obtain ⟨vs,h2,h3,h4⟩:=R.dK a kvs ha
   rw [po a h1]
   exact ⟨vs,keep _ _ h2,h3,h4.mono e⟩
  ·rw [getn] at ha
   cases ha
   cases o with
   | dK vs=>
    rw [pn]
    exact ⟨vs,upd_same,hc.1,IsDs.mono e hc.2⟩
   | _=>exact False.elim hc
 ·have hlt:a<(μ++[c]).length:=(List.getElem?_eq_some_iff.mp ha).1
  rcases split a hlt with h1|rfl
  ·rw [get a h1] at ha
   obtain ⟨vs,h2,h3,h4⟩:=R.st a ks ha
   rw [po a h1]
   exact ⟨vs,keep _ _ h2,h3,h4.mono e⟩
  ·rw [getn] at ha
   cases ha
   obtain ⟨L,rfl,h3,h4⟩:=hc
   rw [pn]
   exact ⟨L,upd_same,h3,h4.mono e⟩
theorem Rp.put0 {a:Nat}{c:C}{o u:HO}(R:Rp K π H μ)(ha:a<μ.length)(ho:H (π a)=some u)(hu:(∃ vs,u=.lst vs)\/(∃ vs,u=.dK vs)\/(∃ φ,u=.ext φ)\/∃ ob φ,u=.frz ob (.ext φ))(hc:CellIs K π μ.length H (π a) c o) :
  Ext0 π μ.length H π (μ.set a c).length (upd H (π a) o)/\Rp K π (upd H (π a) o) (μ.set a c):=by
 have hl:(μ.set a c).length=μ.length:=List.length_set ..
 have e:Ext0 π μ.length H π (μ.set a c).length (upd H (π a) o):=by
  refine ⟨Nat.le_of_eq hl.symm,fun _ _=>rfl,fun q vs z=>?_,fun q o' u' nx z=>?_⟩
  ·rw [upd_ne]
   ·exact z
   ·intro e
    subst e
    rw [ho] at z
    rcases hu with ⟨w,rfl⟩|⟨w,rfl⟩|⟨w,rfl⟩|⟨ob,w,rfl⟩<;>cases z
  ·rw [upd_ne]
   ·exact z
   ·intro e
    subst e
    rw [ho] at z
    rcases hu with ⟨w,rfl⟩|⟨w,rfl⟩|⟨w,rfl⟩|⟨ob,w,rfl⟩<;>cases z
    exact nx _ rfl
 have other:∀ b,b<μ.length->b≠a->upd H (π a) o (π b)=H (π b):=fun b hb hne=>upd_ne fun q=>hne (R.inj b a hb ha q)
 refine ⟨e,⟨fun b b' hb hb'=>R.inj b b' (hl ▸ hb) (hl ▸ hb'),fun b hb=>?_,fun b xs hb=>?_,fun b kvs hb=>?_,fun b ks hb=>?_
  ⟩⟩
 ·by_cases h:b=a
  ·subst h
   rw [upd_same]
   rfl
  ·rw [other b (hl ▸ hb) h]
   exact R.has b (hl ▸ hb)
 ·have hlt:b<μ.length:=hl ▸ (List.getElem?_eq_some_iff.mp hb).1
  by_cases h:b=a
  ·subst h
   rw [List.getElem?_set_self hlt] at hb
   cases hb
   cases o with
   | lst vs=>exact ⟨vs,upd_same,IsDs.mono0 e hc⟩
   | _=>exact False.elim hc
  ·rw [List.getElem?_set_ne (Ne.symm h)] at hb
   obtain ⟨vs,h2,h3⟩:=R.lst b xs hb
   exact ⟨vs,by rw [other b hlt h];exact h2,h3.mono0 e⟩
 ·have hlt:b<μ.length:=hl ▸ (List.getElem?_eq_some_iff.mp hb).1
  by_cases h:b=a
  ·subst h
   rw [List.getElem?_set_self hlt] at hb
   cases hb
   cases o with
   | dK vs=>exact ⟨vs,upd_same,hc.1,IsDs.mono0 e hc.2⟩
   | _=>exact False.elim hc
  ·rw [List.getElem?_set_ne (Ne.symm h)] at hb
   obtain ⟨vs,h2,h3,h4⟩:=R.dK b kvs hb
   exact ⟨vs,by rw [other b hlt h];exact h2,h3,h4.mono0 e⟩
 ·have hlt:b<μ.length:=hl ▸ (List.getElem?_eq_some_iff.mp hb).1
  by_cases h:b=a
  ·subst h
   rw [List.getElem?_set_self hlt] at hb
   cases hb
   obtain ⟨L,rfl,h3,h4⟩:=hc
   exact ⟨L,upd_same,h3,h4.mono0 e⟩
  ·rw [List.getElem?_set_ne (Ne.symm h)] at hb
   obtain ⟨vs,h2,h3,h4⟩:=R.st b ks hb
   exact ⟨vs,by rw [other b hlt h];exact h2,h3,h4.mono0 e⟩
theorem Rp.put {a:Nat}{c:C}{o u:HO}(R:Rp K π H μ)(ha:a<μ.length)(ho:H (π a)=some u)(hu:(∃ vs,u=.lst vs)\/(∃ vs,u=.dK vs)\/∃ φ,u=.ext φ)(hc:CellIs K π μ.length H (π a) c o) :
  Ext π μ.length H π (μ.set a c).length (upd H (π a) o)/\Rp K π (upd H (π a) o) (μ.set a c):=by
 have hl:(μ.set a c).length=μ.length:=List.length_set ..
 have e:Ext π μ.length H π (μ.set a c).length (upd H (π a) o):=by
  refine ⟨Nat.le_of_eq hl.symm,fun _ _=>rfl,fun q vs z=>?_,fun q o' u' z=>?_⟩
  ·rw [upd_ne]
   ·exact z
   ·intro e
    subst e
    rw [ho] at z
    rcases hu with ⟨w,rfl⟩|⟨w,rfl⟩|⟨w,rfl⟩<;>cases z
  ·rw [upd_ne]
   ·exact z
   ·intro e
    subst e
    rw [ho] at z
    rcases hu with ⟨w,rfl⟩|⟨w,rfl⟩|⟨w,rfl⟩<;>cases z
 exact ⟨e,(R.put0 ha ho (hu.imp_right fun h=>h.imp_right .inl) hc).2⟩
end
noncomputable def KC (K:PySem.W.Frag)(Q:VK)(π:Nat->Addr)(n:Nat)(H:Hp)(d:D)(μ':Hm):Prop:=
 ∀ π' v H',Ext π n H π' μ'.length H'->Rp K π' H' μ'->IsD K π' μ'.length H' v d->Q v H'
theorem KC.after {K:PySem.W.Frag}{Q:VK}{π π1:Nat->Addr}{n n1:Nat}{H H1:Hp}{d:D}{μ':Hm}(k:KC K Q π n H d μ')(e:Ext π n H π1 n1 H1):KC K Q π1 n1 H1 d μ':=
 fun π' v H' e' R i=>k π' v H' (e.trans e') R i
noncomputable def tM (K:PySem.W.Frag)(m:ME):TE:=fun σ H Q=>∃ π ρ μ d μ',Rp K π H μ/\En K π μ.length H σ ρ/\m ρ μ=some (d,μ')/\KC K Q π μ.length H d μ'
noncomputable def tMT (K:PySem.W.Frag)(m:MT):TT:=fun σ H Q=>∃ π ρ μ b μ',Rp K π H μ/\En K π μ.length H σ ρ/\m ρ μ=some (b,μ')/\∀ π' H',Ext π μ.length H π' μ'.length H'->Rp K π' H' μ'->Q b H'
noncomputable def tMA (K:PySem.W.Frag)(m:MA):TA:=fun σ H Q=>∃ π ρ μ ds μ',Rp K π H μ/\En K π μ.length H σ ρ/\m ρ μ=some (ds,μ')/\∀ π' vs H',Ext π μ.length H π' μ'.length H'->Rp K π' H' μ'->IsDs K π' μ'.length H' vs ds->Q vs H'
noncomputable def FlOk (K:PySem.W.Frag)(E:Ends)(π:Nat->Addr)(n:Nat)(H:Hp)(fl:Fl)(ρ':Rho)(μ':Hm):Prop:=
 match fl with
 | .nx=>∀ π' σ' H',Ext π n H π' μ'.length H'->Rp K π' H' μ'->En K π' μ'.length H' σ' ρ'->E.nx σ' H'
 | .bk=>∀ π' σ' H',Ext π n H π' μ'.length H'->Rp K π' H' μ'->En K π' μ'.length H' σ' ρ'->E.bk σ' H'
 | .ct=>∀ π' σ' H',Ext π n H π' μ'.length H'->Rp K π' H' μ'->En K π' μ'.length H' σ' ρ'->E.ct σ' H'
 | .rt d=>KC K E.rt π n H d μ'
noncomputable def tMS (K:PySem.W.Frag)(m:MS):TS:=fun E σ H=>∃ π ρ μ fl ρ' μ',Rp K π H μ/\En K π μ.length H σ ρ/\m ρ μ=some (fl,ρ',μ')/\FlOk K E π μ.length H fl ρ' μ'
noncomputable def spM (K:PySem.W.Frag)(k:Nat)(f:MF):Sp:=fun vs H Q _=>vs.length=k/\∃ π ds μ d μ',Rp K π H μ/\IsDs K π μ.length H vs ds/\f ds μ=some (d,μ')/\KC K Q π μ.length H d μ'
section
variable {X:Cx}{e a b c:Expr}{t:TE}{m ma mb mc:ME}{pos:Pos}
theorem pm_weak (h:PE X e t)(hw:∀ σ H Q,tM X.K m σ H Q->t σ H Q):PE X e (tM X.K m):=fun pins s σ H Q I q=>h pins s σ H Q I (hw σ H Q q)
theorem pmt_weak {t:TT}{m:MT}(h:PT X e t)(hw:∀ σ H Q,tMT X.K m σ H Q->t σ H Q):PT X e (tMT X.K m):=fun pins s σ H Q I q=>h pins s σ H Q I (hw σ H Q q)
theorem pmw_weak {t:TT}{m:MT}(h:PW X e t)(hw:∀ σ H Q,tMT X.K m σ H Q->t σ H Q):PW X e (tMT X.K m):=fun wh pins s σ H Q I q=>h wh pins s σ H Q I (hw σ H Q q)
theorem pma_weak {es:List Expr}{t:TA}{m:MA}(h:PA X es t)(hw:∀ σ H Q,tMA X.K m σ H Q->t σ H Q):PA X es (tMA X.K m):=fun p pins s σ H Q I q=>h p pins s σ H Q I (hw σ H Q q)
theorem pms_weak {st:Stmt}{t:TS}{m:MS}(h:PS X st t)(hw:∀ E σ H,tMS X.K m E σ H->t E σ H):PS X st (tMS X.K m):=fun pins s σ H E I q=>h pins s σ H E I (hw E σ H q)
theorem pmss_weak {st:List Stmt}{t:TS}{m:MS}(h:PSs X st t)(hw:∀ E σ H,tMS X.K m E σ H->t E σ H):PSs X st (tMS X.K m):=fun pins s σ H E I q=>h pins s σ H E I (hw E σ H q)
noncomputable def mVar (i:Nat):ME:=fun ρ μ=>match ρ[i]? with|some (some d)=>some (d,μ)|_=>none
noncomputable def mC (d:D):ME:=fun _ μ=>some (d,μ)
theorem mVar_some {i:Nat}{ρ:Rho}{μ μ':Hm}{d:D}(h:mVar i ρ μ=some (d,μ')):ρ[i]? = some (some d)/\μ'=μ:=by
 unfold mVar at h
 split at h
 ·rename_i d' e
  cases h
  exact ⟨e,rfl⟩
 ·cases h
theorem pm_var {x:Str}(i:Nat)(h:PE X (.Name x pos) (tVar i)):PE X (.Name x pos) (tM X.K (mVar i)):=pm_weak h (by
 rintro σ H Q ⟨π,ρ,μ,d,μ',R,E,hm,k⟩
 obtain ⟨h1,rfl⟩:=mVar_some hm
 obtain ⟨v,h2,h3⟩:=E.get i d h1
 exact ⟨v,h2,k π v H .refl R h3⟩)
theorem pm_const {v:V}{d:D}(h:PE X e (tC v))(hd:∀ π n H,IsD X.K π n H v d):PE X e (tM X.K (mC d)):=pm_weak h (by
 rintro σ H Q ⟨π,ρ,μ,d',μ',R,E,hm,k⟩
 cases hm
 exact k π v H .refl R (hd _ _ _))
theorem pm_int {i:Int}{j:Nat}:PE X (.Constant (.int i) j pos) (tM X.K (mC (.int i))):=pm_const pe_int fun _ _ _=>.int i
theorem pm_bl {i:Bool}{j:Nat}:PE X (.Constant (.bool i) j pos) (tM X.K (mC (.bl i))):=pm_const pe_bl fun _ _ _=>.bl i
theorem pm_str {i:Str}{j:Nat}:PE X (.Constant (.str i) j pos) (tM X.K (mC (.str i))):=pm_const pe_str fun _ _ _=>.str i
theorem pm_non {j:Nat}:PE X (.Constant .none j pos) (tM X.K (mC .non)):=pm_const pe_non fun _ _ _=>.non
noncomputable def mOp (f:D->D->Hm->Option (D×Hm))(a b:ME):ME:=fun ρ μ=>(a ρ μ).bind fun p=>(b ρ p.2).bind fun q=>f p.1 q.1 q.2
noncomputable def OpD (K:PySem.W.Frag)(f:D->D->Hm->Option (D×Hm))(r:R2):Prop:=
 ∀ π H μ x y d μ' vx vy Q,Rp K π H μ->IsD K π μ.length H vx x->IsD K π μ.length H vy y->f x y μ=some (d,μ')->KC K Q π μ.length H d μ'->r vx vy H Q
theorem mOp_read {f:D->D->Hm->Option (D×Hm)}{r:R2}{K:PySem.W.Frag}(hf:OpD K f r):∀ σ H Q,tM K (mOp f ma mb) σ H Q->tOp r (tM K ma) (tM K mb) σ H Q:=by
 rintro σ H Q ⟨π,ρ,μ,d,μ',R,E,hm,k⟩
 obtain ⟨⟨x,μ1⟩,h1,hm⟩:=Option.bind_eq_some_iff.mp hm
 obtain ⟨⟨y,μ2⟩,h2,hm⟩:=Option.bind_eq_some_iff.mp hm
 exact ⟨π,ρ,μ,x,μ1,R,E,h1,fun π1 v1 H1 e1 R1 i1=>⟨π1,ρ,μ1,y,μ2,R1,E.mono e1,h2,fun π2 v2 H2 e2 R2 i2=>hf π2 H2 μ2 x y d μ' v1 v2 Q R2 (i1.mono e2) i2 hm (k.after (e1.trans e2))⟩⟩
theorem pm_op {op:Operator}{r:R2}{f:D->D->Hm->Option (D×Hm)}(ho:OpR X (binaryOp op) r)(hf:OpD X.K f r)(ha:PE X a (tM X.K ma))(hb:PE X b (tM X.K mb)):PE X (.BinOp a op b pos) (tM X.K (mOp f ma mb)):=
 pm_weak (pe_op ho ha hb) (mOp_read hf)
theorem pm_cmp {op:CmpOp}{r:R2}{f:D->D->Hm->Option (D×Hm)}(ho:OpR X (compareOp op) r)(hf:OpD X.K f r)(ha:PE X a (tM X.K ma))(hb:PE X b (tM X.K mb))(hm:behindInMarks op b=false):PE X (.Compare a [op] [b] pos) (tM X.K (mOp f ma mb)):=
 pm_weak (pe_cmpR ho ha hb hm) (mOp_read hf)
noncomputable def mTest (m:ME):MT:=fun ρ μ=>(m ρ μ).bind fun p=>match p.1 with|.bl b=>some (b,p.2)|_=>none
theorem mTest_read {K:PySem.W.Frag}:∀ σ H Q,tMT K (mTest m) σ H Q->tM K m σ H fun x H'=>∃ k,x=.bl k/\Q k H':=by
 rintro σ H Q ⟨π,ρ,μ,b,μ',R,E,hm,k⟩
 obtain ⟨⟨x,μ1⟩,h1,hm⟩:=Option.bind_eq_some_iff.mp hm
 cases x with
 | bl c=>
  cases hm
  refine ⟨π,ρ,μ,_,_,R,E,h1,fun π' v H' e' R' i'=>?_⟩
  cases i'
  exact ⟨_,rfl,k π' H' e' R'⟩
 | _=>cases hm
theorem pmt_cmp {op:CmpOp}{r:R2}{f:D->D->Hm->Option (D×Hm)}(ho:OpR X (compareOp op) r)(hf:OpD X.K f r)(ha:PE X a (tM X.K ma))(hb:PE X b (tM X.K mb))(hm:behindInMarks op b=false):PT X (.Compare a [op] [b] pos) (tMT X.K (mTest (mOp f ma mb))):=
 pmt_weak (pt_cmpR ho ha hb hm) fun σ H Q h=>mOp_read hf σ H _ (mTest_read σ H Q h)
end
end L3
namespace L3
open PySem L2
section
variable {X:Cx}{e a b c:Expr}{m ma mb mc:ME}{pos:Pos}{mt mu:MT}{rest:List Expr}
noncomputable def mAndT (a b:MT):MT:=fun ρ μ=>(a ρ μ).bind fun p=>match p.1 with|true=>b ρ p.2|false=>some (false,p.2)
noncomputable def mOrT (a b:MT):MT:=fun ρ μ=>(a ρ μ).bind fun p=>match p.1 with|true=>some (true,p.2)|false=>b ρ p.2
noncomputable def mNotT (a:MT):MT:=fun ρ μ=>(a ρ μ).map fun p=>(!p.1,p.2)
theorem pmw_and1 (ha:PT X a (tMT X.K mt)):PW X (.BoolOp .And [a] pos) (tMT X.K mt):=pw_and1 ha
theorem pmw_or1 (ha:PT X a (tMT X.K mt)):PW X (.BoolOp .Or [a] pos) (tMT X.K mt):=pw_or1 ha
theorem pmw_and (ha:PT X a (tMT X.K mt))(hb:PW X (.BoolOp .And (b::rest) pos) (tMT X.K mu)):PW X (.BoolOp .And (a::b::rest) pos) (tMT X.K (mAndT mt mu)):=pmw_weak (pw_and ha hb) (by
 rintro σ H Q ⟨π,ρ,μ,d,μ',R,E,hm,k⟩
 obtain ⟨⟨x,μ1⟩,h1,hm⟩:=Option.bind_eq_some_iff.mp hm
 refine ⟨π,ρ,μ,x,μ1,R,E,h1,fun π1 H1 e1 R1=>?_⟩
 cases x with
 | true=>
  refine iteT ?_
  exact ⟨π1,ρ,μ1,d,μ',R1,E.mono e1,hm,fun π2 H2 e2 R2=>k π2 H2 (e1.trans e2) R2⟩
 | false=>
  refine iteF ?_
  cases hm
  exact k π1 H1 e1 R1)
theorem pmw_or (ha:PT X a (tMT X.K mt))(hb:PW X (.BoolOp .Or (b::rest) pos) (tMT X.K mu)):PW X (.BoolOp .Or (a::b::rest) pos) (tMT X.K (mOrT mt mu)):=pmw_weak (pw_or ha hb) (by
 rintro σ H Q ⟨π,ρ,μ,d,μ',R,E,hm,k⟩
 obtain ⟨⟨x,μ1⟩,h1,hm⟩:=Option.bind_eq_some_iff.mp hm
 refine ⟨π,ρ,μ,x,μ1,R,E,h1,fun π1 H1 e1 R1=>?_⟩
 cases x with
 | true=>
  refine iteT ?_
  cases hm
  exact k π1 H1 e1 R1
 | false=>
  refine iteF ?_
  exact ⟨π1,ρ,μ1,d,μ',R1,E.mono e1,hm,fun π2 H2 e2 R2=>k π2 H2 (e1.trans e2) R2⟩)
theorem pmt_not (ha:PT X a (tMT X.K mt)):PT X (.UnaryOp .Not a pos) (tMT X.K (mNotT mt)):=pmt_weak (pt_not ha) (by
 rintro σ H Q ⟨π,ρ,μ,d,μ',R,E,hm,k⟩
 obtain ⟨⟨x,μ1⟩,h1,hm⟩:=Option.map_eq_some_iff.mp hm
 cases hm
 exact ⟨π,ρ,μ,x,μ1,R,E,h1,fun π1 H1 e1 R1=>k π1 H1 e1 R1⟩)
noncomputable def mAndV (a b:ME):ME:=fun ρ μ=>(a ρ μ).bind fun p=>match p.1 with|.bl true=>b ρ p.2|.bl false=>some (.bl false,p.2)|_=>none
noncomputable def mOrV (a b:ME):ME:=fun ρ μ=>(a ρ μ).bind fun p=>match p.1 with|.bl true=>some (.bl true,p.2)|.bl false=>b ρ p.2|_=>none
noncomputable def mNotV (a:ME):ME:=fun ρ μ=>(a ρ μ).bind fun p=>match p.1 with|.bl b=>some (.bl (!b),p.2)|_=>none
theorem pm_one {op:BoolOp}(h:PE X a (tM X.K m)):PE X (.BoolOp op [a] pos) (tM X.K m):=pe_one h
theorem pm_and (ha:PE X a (tM X.K ma))(hb:PE X (.BoolOp .And (b::rest) pos) (tM X.K mb)):PE X (.BoolOp .And (a::b::rest) pos) (tM X.K (mAndV ma mb)):=pm_weak (pe_and ha hb) (by
 rintro σ H Q ⟨π,ρ,μ,d,μ',R,E,hm,k⟩
 obtain ⟨⟨x,μ1⟩,h1,hm⟩:=Option.bind_eq_some_iff.mp hm
 cases x with
 | bl c=>
  refine ⟨π,ρ,μ,.bl c,μ1,R,E,h1,fun π1 v1 H1 e1 R1 i1=>?_⟩
  cases i1
  refine ⟨c,rfl,?_⟩
  cases c with
  | true=>
   refine iteT ?_
   exact ⟨π1,ρ,μ1,d,μ',R1,E.mono e1,hm,k.after e1⟩
  | false=>
   refine iteF ?_
   cases hm
   exact k π1 _ H1 e1 R1 (.bl false)
 | _=>cases hm)
theorem pm_or (ha:PE X a (tM X.K ma))(hb:PE X (.BoolOp .Or (b::rest) pos) (tM X.K mb)):PE X (.BoolOp .Or (a::b::rest) pos) (tM X.K (mOrV ma mb)):=pm_weak (pe_or ha hb) (by
 rintro σ H Q ⟨π,ρ,μ,d,μ',R,E,hm,k⟩
 obtain ⟨⟨x,μ1⟩,h1,hm⟩:=Option.bind_eq_some_iff.mp hm
 cases x with
 | bl c=>
  refine ⟨π,ρ,μ,.bl c,μ1,R,E,h1,fun π1 v1 H1 e1 R1 i1=>?_⟩
  cases i1
  refine ⟨c,rfl,?_⟩
  cases c with
  | true=>
   refine iteT ?_
   cases hm
   exact k π1 _ H1 e1 R1 (.bl true)
  | false=>
   refine iteF ?_
   exact ⟨π1,ρ,μ1,d,μ',R1,E.mono e1,hm,k.after e1⟩
 | _=>cases hm)
theorem pm_not (ha:PE X a (tM X.K ma)):PE X (.UnaryOp .Not a pos) (tM X.K (mNotV ma)):=pm_weak (pe_not ha) (by
 rintro σ H Q ⟨π,ρ,μ,d,μ',R,E,hm,k⟩
 obtain ⟨⟨x,μ1⟩,h1,hm⟩:=Option.bind_eq_some_iff.mp hm
 cases x with
 | bl c=>
  cases hm
  refine ⟨π,ρ,μ,_,_,R,E,h1,fun π1 v1 H1 e1 R1 i1=>?_⟩
  cases i1
  exact ⟨_,rfl,k π1 _ H1 e1 R1 (.bl _)⟩
 | _=>cases hm)
noncomputable def mIfE (t:MT)(a b:ME):ME:=fun ρ μ=>(t ρ μ).bind fun p=>match p.1 with|true=>a ρ p.2|false=>b ρ p.2
theorem pm_ifExp (hc:PT X c (tMT X.K mt))(ha:PE X a (tM X.K ma))(hb:PE X b (tM X.K mb)):PE X (.IfExp c a b pos) (tM X.K (mIfE mt ma mb)):=pm_weak (pe_ifExp hc ha hb) (by
 rintro σ H Q ⟨π,ρ,μ,d,μ',R,E,hm,k⟩
 obtain ⟨⟨x,μ1⟩,h1,hm⟩:=Option.bind_eq_some_iff.mp hm
 refine ⟨π,ρ,μ,x,μ1,R,E,h1,fun π1 H1 e1 R1=>?_⟩
 cases x with
 | true=>
  refine iteT ?_
  exact ⟨π1,ρ,μ1,d,μ',R1,E.mono e1,hm,k.after e1⟩
 | false=>
  refine iteF ?_
  exact ⟨π1,ρ,μ1,d,μ',R1,E.mono e1,hm,k.after e1⟩)
noncomputable def mNil:MA:=fun _ μ=>some ([],μ)
noncomputable def mCons (a:ME)(r:MA):MA:=fun ρ μ=>(a ρ μ).bind fun p=>(r ρ p.2).bind fun q=>some (p.1::q.1,q.2)
variable {es:List Expr}{ms:MA}
theorem pma_nil:PA X [] (tMA X.K mNil):=pma_weak pa_nil (by
 rintro σ H Q ⟨π,ρ,μ,d,μ',R,E,hm,k⟩
 cases hm
 exact k π [] H .refl R .nil)
theorem pma_cons (ha:PE X e (tM X.K m))(hr:PA X es (tMA X.K ms))(hs:starEach (e::es) X.env=(false,eval e X.env)::starEach es X.env:=by rfl):PA X (e::es) (tMA X.K (mCons m ms)):=pma_weak (pa_cons ha hr hs) (by
 rintro σ H Q ⟨π,ρ,μ,d,μ',R,E,hm,k⟩
 obtain ⟨⟨x,μ1⟩,h1,hm⟩:=Option.bind_eq_some_iff.mp hm
 obtain ⟨⟨xs,μ2⟩,h2,hm⟩:=Option.bind_eq_some_iff.mp hm
 cases hm
 exact ⟨π,ρ,μ,x,μ1,R,E,h1,fun π1 v1 H1 e1 R1 i1=>⟨π1,ρ,μ1,xs,μ2,R1,E.mono e1,h2,fun π2 vs H2 e2 R2 i2=>k π2 _ H2 (e1.trans e2) R2 (.cons (i1.mono e2) i2)⟩⟩)
noncomputable def mTup (ms:MA):ME:=fun ρ μ=>(ms ρ μ).bind fun p=>if p.1.length<=sizeLine then some (.tup p.1,p.2) else none
noncomputable def mLst (ms:MA):ME:=fun ρ μ=>(ms ρ μ).bind fun p=>if p.1.length<=sizeLine then some (.loc p.2.length,p.2++[.lst p.1]) else none
theorem pm_tup {x1:Nat}(h:PA X es (tMA X.K ms)):PE X (.Tuple es x1 pos) (tM X.K (mTup ms)):=pm_weak (pe_tup h) (by
 rintro σ H Q ⟨π,ρ,μ,d,μ',R,E,hm,k⟩
 obtain ⟨⟨xs,μ1⟩,h1,hm⟩:=Option.bind_eq_some_iff.mp hm
 split at hm
 ·rename_i hl
  cases hm
  refine ⟨π,ρ,μ,_,_,R,E,h1,fun π1 vs H1 e1 R1 i1=>⟨by rw [i1.length];exact hl,fun p hp=>?_⟩⟩
  obtain ⟨e2,R2⟩:=R1.fresh (o:=.tup vs) hp
  exact k π1 _ _ (e1.trans e2) R2 (.tup (.of upd_same) (i1.mono e2))
 ·cases hm)
theorem pm_lst (h:PA X es (tMA X.K ms)):PE X (.List es pos) (tM X.K (mLst ms)):=pm_weak (pe_lst h) (by
 rintro σ H Q ⟨π,ρ,μ,d,μ',R,E,hm,k⟩
 obtain ⟨⟨xs,μ1⟩,h1,hm⟩:=Option.bind_eq_some_iff.mp hm
 split at hm
 ·rename_i hl
  cases hm
  refine ⟨π,ρ,μ,xs,μ1,R,E,h1,fun π1 vs H1 e1 R1 i1=>⟨by rw [i1.length];exact hl,fun p hp=>?_⟩⟩
  obtain ⟨e2,R2,q⟩:=R1.alloc (c:=.lst xs) (o:=.lst vs) hp i1
  have i2:IsD X.K (ext1 π1 μ1.length p) (μ1++[C.lst xs]).length (upd H1 p (.lst vs)) (.ref p) (.loc μ1.length):=by
   have:=IsD.loc (K:=X.K) (π:=ext1 π1 μ1.length p) (n:=(μ1++[C.lst xs]).length) (H:=upd H1 p (.lst vs)) (a:=μ1.length) (by simp)
   rw [q] at this
   exact this
  exact k _ _ _ (e1.trans e2) R2 i2
 ·cases hm)
noncomputable def mCall (f:MF)(ms:MA):ME:=fun ρ μ=>(ms ρ μ).bind fun p=>f p.1 p.2
theorem mCall_read {K:PySem.W.Frag}{f:MF}{n:Nat}{E:XK}(hn:∀ ρ μ ds μ',ms ρ μ=some (ds,μ')->ds.length=n):∀ σ H Q,tM K (mCall f ms) σ H Q->tCall (spM K n f) [] E (tMA K ms) σ H Q:=by
 rintro σ H Q ⟨π,ρ,μ,d,μ',R,E,hm,k⟩
 obtain ⟨⟨xs,μ1⟩,h1,hm⟩:=Option.bind_eq_some_iff.mp hm
 refine ⟨π,ρ,μ,xs,μ1,R,E,h1,fun π1 vs H1 e1 R1 i1=>?_⟩
 show spM K n f (vs++[]) H1 Q _
 rw [List.append_nil]
 exact ⟨by rw [i1.length];exact hn ρ μ xs μ1 h1,π1,xs,μ1,d,μ',R1,i1,hm,k.after e1⟩
theorem len_nil:∀ ρ μ ds μ',mNil ρ μ=some (ds,μ')->ds.length=0:=by
 intro ρ μ ds μ' h
 cases h
 rfl
theorem len_cons {n:Nat}(h:∀ ρ μ ds μ',ms ρ μ=some (ds,μ')->ds.length=n):∀ ρ μ ds μ',mCons m ms ρ μ=some (ds,μ')->ds.length=n+1:=by
 intro ρ μ ds μ' hm
 obtain ⟨⟨x,μ1⟩,h1,hm⟩:=Option.bind_eq_some_iff.mp hm
 obtain ⟨⟨xs,μ2⟩,h2,hm⟩:=Option.bind_eq_some_iff.mp hm
 cases hm
 rw [List.length_cons,h ρ μ1 xs _ h2]
theorem pm_call {k:Nat}{f:Addr}{fd:FuncData}{ps:List Str}{fm:MF}{x:Str}{p:Pos}{n:Nat}(F:FnOk X.prog X.w X.K X.mg X.base CX0 k f fd ps (spM X.K n fm))(hr:Room k X.A)(hg:Gl X x)(hm:X.mg x=some (.ref f))
  (hk:PySem.W.keepIn X.K (.ref f)=true)(hb:Binds X.K fd ps [])(ha:PA X (e::es) (tMA X.K ms))(hn:∀ ρ μ ds μ',ms ρ μ=some (ds,μ')->ds.length=n)(hdb:(x == ("__debug__":Str))=false:=by decide)
  (he:starEach (e::es) X.env=(false,eval e X.env)::starEach es X.env:=by rfl)(hpl:(backTo pos (starEach es X.env)).any (·.1)=false:=by rfl) :
  PE X (.Call (.Name x p) (e::es) [] pos) (tM X.K (mCall fm ms)):=
 pm_weak (pe_call F hr hg hm hk hb .nil (E:=E0) pass0 ha hdb he hpl) (mCall_read hn)
noncomputable def CallD (K:PySem.W.Frag)(f:MF)(r:List V->Hp->VK->Prop):Prop:=
 ∀ π H μ xs d μ' vs Q,Rp K π H μ->IsDs K π μ.length H vs xs->f xs μ=some (d,μ')->KC K Q π μ.length H d μ'->r vs H Q
theorem mCB_read {K:PySem.W.Frag}{f:MF}{r:List V->Hp->VK->Prop}(hf:CallD K f r):∀ σ H Q,tM K (mCall f ms) σ H Q->tCB r (tMA K ms) σ H Q:=by
 rintro σ H Q ⟨π,ρ,μ,d,μ',R,E,hm,k⟩
 obtain ⟨⟨xs,μ1⟩,h1,hm⟩:=Option.bind_eq_some_iff.mp hm
 exact ⟨π,ρ,μ,xs,μ1,R,E,h1,fun π1 vs H1 e1 R1 i1=>hf π1 H1 μ1 xs d μ' vs Q R1 i1 hm (k.after e1)⟩
theorem pm_callB {f:MF}{r:List V->Hp->VK->Prop}{id:String}{x:Str}{p:Pos}(hc:CallR X (.builtin id) r)(hf:CallD X.K f r)(hg:Gl X x)(hm:X.mg x=none)(hv:bootBuiltins x=some (.builtin id))(ha:PA X (e::es) (tMA X.K ms))
  (hn:x ≠ "__name__":=by decide) (hdb:(x == ("__debug__":Str))=false:=by decide)
  (he:starEach (e::es) X.env=(false,eval e X.env)::starEach es X.env:=by rfl)(hpl:(backTo pos (starEach es X.env)).any (·.1)=false:=by rfl):PE X (.Call (.Name x p) (e::es) [] pos) (tM X.K (mCall f ms)):=
 pm_weak (pe_callB hc hg hm hv ha hn hdb he hpl) (mCB_read hf)
theorem pm_callTy {f:MF}{r:List V->Hp->VK->Prop}{T:String}{x:Str}{p:Pos}(hc:CallR X (.type T) r)(hf:CallD X.K f r)(hg:Gl X x)(hm:X.mg x=none)(hv:bootBuiltins x=some (.type T))(ha:PA X (e::es) (tMA X.K ms))
  (hn:x ≠ "__name__":=by decide) (hdb:(x == ("__debug__":Str))=false:=by decide)
  (he:starEach (e::es) X.env=(false,eval e X.env)::starEach es X.env:=by rfl)(hpl:(backTo pos (starEach es X.env)).any (·.1)=false:=by rfl):PE X (.Call (.Name x p) (e::es) [] pos) (tM X.K (mCall f ms)):=
 pm_weak (pe_callTy hc hg hm hv ha hn hdb he hpl) (mCB_read hf)
noncomputable def seqD (μ:Hm):D->Option (List D)
 | .tup xs=>some xs
 | .rol xs=>some xs
 | .loc a=>match μ[a]? with|some (.lst xs)=>some xs|_=>none
 | _=>none
noncomputable def ixD:D->D->Hm->Option (D×Hm)
 | .str z,.int i,μ=>if z.length<=sizeLine then (atI z.cps.toList i).map fun c=>(.str ⟨#[c]⟩,μ) else none
 | x,.int i,μ=>(seqD μ x).bind fun xs=>(atI xs i).map fun d=>(d,μ)
 | _,_,_=>none
theorem ixD_ok {K:PySem.W.Frag}:OpD K ixD (rIx K):=by
 intro π H μ x y d μ' vx vy Q R ix iy hm k
 cases iy with
 | int i=>
  cases ix with
  | str z=>
   simp only [ixD] at hm
   split at hm
   ·rename_i hl
    obtain ⟨c,h1,h2⟩:=Option.map_eq_some_iff.mp hm
    cases h2
    exact .inr (.inr ⟨z,i,c,rfl,rfl,hl,h1,k π _ H .refl R (.str _)⟩)
   ·cases hm
  | tup h t=>
   simp only [ixD,seqD,Option.bind_some] at hm
   obtain ⟨d',h1,h2⟩:=Option.map_eq_some_iff.mp hm
   cases h2
   obtain ⟨v,h3,h4⟩:=t.atI h1
   exact .inr (.inl ⟨_,_,i,v,rfl,rfl,h,h3,k π _ H .refl R h4⟩)
  | rol h t=>
   simp only [ixD,seqD,Option.bind_some] at hm
   obtain ⟨d',h1,h2⟩:=Option.map_eq_some_iff.mp hm
   cases h2
   obtain ⟨v,h3,h4⟩:=t.atI h1
   exact .inl ⟨_,_,i,v,rfl,rfl,h.sq,h3,k π _ H .refl R h4⟩
  | @loc a ha=>
   simp only [ixD,seqD] at hm
   split at hm
   ·rename_i xs hx
    simp only [Option.bind_some] at hm
    obtain ⟨d',h1,h2⟩:=Option.map_eq_some_iff.mp hm
    cases h2
    obtain ⟨vs,h5,h6⟩:=R.lst a xs hx
    obtain ⟨v,h3,h4⟩:=h6.atI h1
    exact .inl ⟨_,_,i,v,rfl,rfl,.of h5,h3,k π _ H .refl R h4⟩
   ·cases hm
  | _=>simp [ixD,seqD] at hm
 | _=>cases ix<;>simp [ixD] at hm
theorem pm_ix (ha:PE X a (tM X.K ma))(hb:PE X b (tM X.K mb))(hs:PlainIx b):PE X (.Subscript a b pos) (tM X.K (mOp ixD ma mb)):=pm_weak (pe_ix ix_seq ha hb hs) (mOp_read ixD_ok)
noncomputable def cutD (xs:List D)(lo hi:Option Int):List D:=(xs.drop (HT.sIx xs.length 0 lo)).take (HT.sIx xs.length xs.length hi - HT.sIx xs.length 0 lo)
noncomputable abbrev MO:=Rho->Hm->Option (Option Int×Hm)
noncomputable def mNoPart:MO:=fun _ μ=>some (none,μ)
noncomputable def mPart (m:ME):MO:=fun ρ μ=>(m ρ μ).bind fun p=>match p.1 with|.int i=>some (some i,p.2)|_=>none
noncomputable def tMO (K:PySem.W.Frag)(m:MO):TO:=fun σ H Q=>∃ π ρ μ o μ',Rp K π H μ/\En K π μ.length H σ ρ/\m ρ μ=some (o,μ')/\∀ π' H',Ext π μ.length H π' μ'.length H'->Rp K π' H' μ'->Q o H'
theorem pmo_none:PO X none (tMO X.K mNoPart):=fun pins s σ H Q I q=>po_none pins s σ H Q I (by
 obtain ⟨π,ρ,μ,o,μ',R,E,hm,k⟩:=q
 cases hm
 exact k π H .refl R)
theorem pmo_some (h:PE X e (tM X.K m)):PO X (some e) (tMO X.K (mPart m)):=fun pins s σ H Q I q=>po_some h pins s σ H Q I (by
 obtain ⟨π,ρ,μ,o,μ',R,E,hm,k⟩:=q
 obtain ⟨⟨x,μ1⟩,h1,hm⟩:=Option.bind_eq_some_iff.mp hm
 cases x with
 | int i=>
  cases hm
  refine ⟨π,ρ,μ,_,_,R,E,h1,fun π1 v1 H1 e1 R1 i1=>?_⟩
  cases i1
  exact ⟨_,rfl,k π1 H1 e1 R1⟩
 | _=>cases hm)
noncomputable abbrev rSlA (K:PySem.W.Frag):V->Option Int->Option Int->Hp->VK->Prop:=rSlL K
theorem sl_any {X:Cx}:SlR X (rSlA X.K):=sl_list
theorem slA_l {K:PySem.W.Frag}{x:V}{lo hi:Option Int}{H:Hp}{Q:VK}(h:rSlL K x lo hi H Q):rSlA K x lo hi H Q:=h
noncomputable def mSlice (a:ME)(lo hi:MO):ME:=fun ρ μ=>(a ρ μ).bind fun p=>(lo ρ p.2).bind fun q=>(hi ρ q.2).bind fun r=>
 match p.1 with
 | .tup _=>none
 | x=>(seqD r.2 x).bind fun xs=>some (.loc r.2.length,r.2++[.lst (cutD xs q.1 r.1)])
theorem cut_is {K:PySem.W.Frag}{π:Nat->Addr}{n:Nat}{H:Hp}{vs:List V}{ds:List D}(h:IsDs K π n H vs ds)(lo hi:Option Int):IsDs K π n H (cutV vs lo hi) (cutD ds lo hi):=by
 unfold cutV cutD
 rw [h.length]
 exact (h.drop _).take _
theorem alloc_loc {K:PySem.W.Frag}{π:Nat->Addr}{μ:Hm}{p:Addr}{c:C}{H:Hp}:IsD K (ext1 π μ.length p) (μ++[c]).length H (.ref p) (.loc μ.length):=by
 have:=IsD.loc (K:=K) (π:=ext1 π μ.length p) (n:=(μ++[c]).length) (H:=H) (a:=μ.length) (by simp)
 rw [show ext1 π μ.length p μ.length=p from if_pos rfl] at this
 exact this
theorem pm_slice {lo hi:Option Expr}{ml mh:MO}{p2:Pos}(ha:PE X a (tM X.K ma))(hl:PO X lo (tMO X.K ml))(hu:PO X hi (tMO X.K mh)):PE X (.Subscript a (.Slice lo hi none p2) pos) (tM X.K (mSlice ma ml mh)):=pm_weak (pe_slice sl_any ha hl hu) (by
 rintro σ H Q ⟨π,ρ,μ,d,μ',R,E,hm,k⟩
 obtain ⟨⟨x,μ1⟩,h1,hm⟩:=Option.bind_eq_some_iff.mp hm
 obtain ⟨⟨l,μ2⟩,h2,hm⟩:=Option.bind_eq_some_iff.mp hm
 obtain ⟨⟨u,μ3⟩,h3,hm⟩:=Option.bind_eq_some_iff.mp hm
 refine ⟨π,ρ,μ,x,μ1,R,E,h1,fun π1 v1 H1 e1 R1 i1=>⟨π1,ρ,μ1,l,μ2,R1,E.mono e1,h2,fun π2 H2 e2 R2=>⟨π2,ρ,μ2,u,μ3,R2,(E.mono e1).mono e2,h3,fun π3 H3 e3 R3=>?_⟩⟩⟩
 have i3:=(i1.mono e2).mono e3
 cases i3 with
 | rol h t=>
  simp only [seqD,Option.bind_some] at hm
  cases hm
  refine slA_l ⟨_,_,rfl,h.sq,fun p hp=>?_⟩
  obtain ⟨e4,R4,q⟩:=R3.alloc (c:=.lst (cutD _ l u)) (o:=.lst (cutV _ l u)) hp (cut_is t l u)
  exact k _ _ _ (((e1.trans e2).trans e3).trans e4) R4 alloc_loc
 | @loc i hi'=>
  simp only [seqD] at hm
  split at hm
  ·rename_i xs hx
   simp only [Option.bind_some] at hm
   cases hm
   obtain ⟨vs,h5,h6⟩:=R3.lst i xs hx
   refine slA_l ⟨_,_,rfl,.of h5,fun p hp=>?_⟩
   obtain ⟨e4,R4,q⟩:=R3.alloc (c:=.lst (cutD xs l u)) (o:=.lst (cutV vs l u)) hp (cut_is h6 l u)
   exact k _ _ _ (((e1.trans e2).trans e3).trans e4) R4 alloc_loc
  ·cases hm
 | tup h t=>simp at hm
 | _=>simp [seqD] at hm)
end
section
variable {X:Cx}{e a b c:Expr}{m:ME}{pos:Pos}{mt:MT}{st:Stmt}{rest body orelse:List Stmt}{ms mr mu:MS}
noncomputable def mNext:MS:=fun ρ μ=>some (.nx,ρ,μ)
noncomputable def mSeq (a b:MS):MS:=fun ρ μ=>(a ρ μ).bind fun p=>match p.1 with|.nx=>b p.2.1 p.2.2|_=>some p
noncomputable def mRet (m:ME):MS:=fun ρ μ=>(m ρ μ).map fun p=>(.rt p.1,ρ,p.2)
noncomputable def mDrop (m:ME):MS:=fun ρ μ=>(m ρ μ).map fun p=>(.nx,ρ,p.2)
noncomputable def mIfS (t:MT)(a b:MS):MS:=fun ρ μ=>(t ρ μ).bind fun p=>match p.1 with|true=>a ρ p.2|false=>b ρ p.2
noncomputable def mSet (i:Nat)(m:ME):MS:=fun ρ μ=>(m ρ μ).map fun p=>(.nx,ρ.set i (some p.1),p.2)
theorem pmss_nil:PSs X [] (tMS X.K mNext):=pmss_weak pss_nil (by
 rintro E σ H ⟨π,ρ,μ,fl,ρ',μ',R,EN,hm,k⟩
 cases hm
 exact k π σ H .refl R EN)
theorem pmss_cons (h1:PS X st (tMS X.K ms))(h2:PSs X rest (tMS X.K mr)):PSs X (st::rest) (tMS X.K (mSeq ms mr)):=pmss_weak (pss_cons h1 h2) (by
 rintro E σ H ⟨π,ρ,μ,fl,ρ',μ',R,EN,hm,k⟩
 obtain ⟨⟨f1,ρ1,μ1⟩,h1,hm⟩:=Option.bind_eq_some_iff.mp hm
 refine ⟨π,ρ,μ,f1,ρ1,μ1,R,EN,h1,?_⟩
 cases f1 with
 | nx=>
  intro π1 σ1 H1 e1 R1 E1
  refine ⟨π1,ρ1,μ1,fl,ρ',μ',R1,E1,hm,?_⟩
  cases fl with
  | nx=>exact fun π2 σ2 H2 e2 R2 E2=>k π2 σ2 H2 (e1.trans e2) R2 E2
  | bk=>exact fun π2 σ2 H2 e2 R2 E2=>k π2 σ2 H2 (e1.trans e2) R2 E2
  | ct=>exact fun π2 σ2 H2 e2 R2 E2=>k π2 σ2 H2 (e1.trans e2) R2 E2
  | rt d=>exact KC.after k e1
 | rt d=>cases hm;exact k
 | bk=>cases hm;exact k
 | ct=>cases hm;exact k)
theorem pmss_one (h1:PS X st (tMS X.K ms)):PSs X [st] (tMS X.K ms):=pss_one h1
theorem pms_pass:PS X (.Pass pos) (tMS X.K mNext):=pms_weak ps_pass (by
 rintro E σ H ⟨π,ρ,μ,fl,ρ',μ',R,EN,hm,k⟩
 cases hm
 exact k π σ H .refl R EN)
theorem pms_ret (he:PE X e (tM X.K m)):PS X (.Return (some e) pos) (tMS X.K (mRet m)):=pms_weak (ps_ret he) (by
 rintro E σ H ⟨π,ρ,μ,fl,ρ',μ',R,EN,hm,k⟩
 obtain ⟨⟨x,μ1⟩,h1,hm⟩:=Option.map_eq_some_iff.mp hm
 cases hm
 exact ⟨π,ρ,μ,x,μ1,R,EN,h1,k⟩)
theorem pms_expr (he:PE X e (tM X.K m))(hs:swapsWith e none pos.line X.env=pure false:=by rfl):PS X (.Expr e pos) (tMS X.K (mDrop m)):=pms_weak (ps_expr he hs) (by
 rintro E σ H ⟨π,ρ,μ,fl,ρ',μ',R,EN,hm,k⟩
 obtain ⟨⟨x,μ1⟩,h1,hm⟩:=Option.map_eq_some_iff.mp hm
 cases hm
 exact ⟨π,ρ,μ,x,μ1,R,EN,h1,fun π1 v1 H1 e1 R1 i1=>k π1 σ H1 e1 R1 (EN.mono e1)⟩)
theorem pms_if (hc:PT X c (tMT X.K mt))(ha:PSs X body (tMS X.K ms))(hb:PSs X orelse (tMS X.K mu)):PS X (.If c body orelse pos) (tMS X.K (mIfS mt ms mu)):=pms_weak (ps_if hc ha hb) (by
 rintro E σ H ⟨π,ρ,μ,fl,ρ',μ',R,EN,hm,k⟩
 obtain ⟨⟨x,μ1⟩,h1,hm⟩:=Option.bind_eq_some_iff.mp hm
 refine ⟨π,ρ,μ,x,μ1,R,EN,h1,fun π1 H1 e1 R1=>?_⟩
 have k':FlOk X.K E π1 μ1.length H1 fl ρ' μ':=by
  cases fl with
  | nx=>exact fun π2 σ2 H2 e2 R2 E2=>k π2 σ2 H2 (e1.trans e2) R2 E2
  | bk=>exact fun π2 σ2 H2 e2 R2 E2=>k π2 σ2 H2 (e1.trans e2) R2 E2
  | ct=>exact fun π2 σ2 H2 e2 R2 E2=>k π2 σ2 H2 (e1.trans e2) R2 E2
  | rt d=>exact KC.after k e1
 cases x with
 | true=>
  refine iteT ?_
  exact ⟨π1,ρ,μ1,fl,ρ',μ',R1,EN.mono e1,hm,k'⟩
 | false=>
  refine iteF ?_
  exact ⟨π1,ρ,μ1,fl,ρ',μ',R1,EN.mono e1,hm,k'⟩)
theorem pms_set {i:Nat}{x:Str}{pos':Pos}(hN:X.N.Nodup)(hi:X.N[i]? = some x)(hx:Loc X.env.scope x)(he:PE X e (tM X.K m))(hs:swapsWith e (some (.Name x pos')) pos.line X.env=pure false:=by rfl)
  (hf:X.fn x=true\/X.env.scope.names.lookup x=some .local:=by first|exact .inl rfl|exact .inr rfl|assumption):PS X (.Assign [.Name x pos'] e pos) (tMS X.K (mSet i m)):=pms_weak (ps_set hN hi hx he hs hf) (by
 rintro E σ H ⟨π,ρ,μ,fl,ρ',μ',R,EN,hm,k⟩
 obtain ⟨⟨x,μ1⟩,h1,hm⟩:=Option.map_eq_some_iff.mp hm
 cases hm
 exact ⟨π,ρ,μ,x,μ1,R,EN,h1,fun π1 v1 H1 e1 R1 i1=>k π1 _ H1 e1 R1 ((EN.mono e1).set i1 i)⟩)
end
noncomputable def startM (n:Nat)(ds:List D):Rho:=ds.map some++List.replicate (n - ds.length) none
noncomputable def runM (n:Nat)(m:MS):MF:=fun ds μ=>(m (startM n ds) μ).bind fun p=>match p.1 with|.rt d=>some (d,p.2.2)|.nx=>some (.non,p.2.2)|_=>none
theorem start_en {K:PySem.W.Frag}{π:Nat->Addr}{n:Nat}{H:Hp}{N:List Str}{vs:List V}{ds:List D}(h:IsDs K π n H vs ds)(hl:vs.length<=N.length):En K π n H (L2.start N vs) (startM N.length ds):=by
 have hlen:=h.length
 refine ⟨by simp [L2.start,startM,hlen],fun i d e=>?_⟩
 unfold startM at e
 unfold L2.start
 by_cases hi:i<ds.length
 ·rw [List.getElem?_append_left (by simpa using hi),List.getElem?_map] at e
  obtain ⟨d',h1,h2⟩:=Option.map_eq_some_iff.mp e
  cases h2
  obtain ⟨v,h3,h4⟩:=h.get h1
  exact ⟨v,by rw [List.getElem?_append_left (by rw [List.length_map,hlen];exact hi),List.getElem?_map,h3];rfl,h4⟩
 ·rw [List.getElem?_append_right (by simpa using Nat.not_lt.mp hi)] at e
  have:=List.getElem?_replicate (n:=N.length - ds.length) (a:=(none:Option D)) (i:=i - (ds.map some).length)
  rw [this] at e
  split at e<;>simp at e
section
variable {P:Program}{w:World}{K:PySem.W.Frag}{mg:Str->Option Value}{base:Heap}
theorem fn_ok {x qual:Str}{st:Stmt}{f:Addr}{fd:FuncData}{N ps:List Str}{k:Nat}{m:MS}(F:Fun K x qual st f fd)(S:FnScope N ps (defScope st))(hps:ps.length<=N.length)
  (hbody:∀ (cdv:Value)(A:Around)(outer:List Env)(s:Shared)(H:Hp)(E:XK),Room k (A.deeper (PyProof.Rows.envOfC qual (defScope st) s.heap.objs.size f cdv))->
   PSs (cxOf CX0 P w K mg base N qual (defScope st) f cdv A outer s H E).nox (defBody st) (tMS K m)):FnOk P w K mg base CX0 (k+1) f fd ps (spM K ps.length (runM N.length m)):=by
 refine F.ok S (fun vs H Q E h=>h.1) fun cdv A outer s H vs Q E hr h=>⟨_,hbody cdv A outer s H E hr,?_⟩
 obtain ⟨hv,π,ds,μ,d,μ',R,i,hm,kc⟩:=h
 obtain ⟨⟨fl,ρ',μ1⟩,h1,hm⟩:=Option.bind_eq_some_iff.mp hm
 refine ⟨π,_,μ,fl,ρ',μ1,R,start_en i (by rw [hv];exact hps),h1,?_⟩
 cases fl with
 | rt d'=>cases hm;exact kc
 | nx=>cases hm;exact fun π1 σ1 H1 e1 R1 E1=>kc π1 .non H1 e1 R1 .non
 | bk=>cases hm
 | ct=>cases hm
end
end L3
namespace L3
open PySem L2
open SeqAt (EqAt RcAt RcNeAt)
inductive KD where
 | non|bl (b:Bool)|int (i:Int)|str (x:Str)|tup (n:Nat)|lst (n:Nat)
inductive IsK (s:Shared):Value->KD->Prop where
 | non:IsK s .none .non
 | bl (b:Bool):IsK s (.bool b) (.bl b)
 | int (i:Int)(t:Tok):IsK s (.int i t) (.int i)
 | str (x:Str)(t:Tok):IsK s (.str x t) (.str x)
 | tup {l:Addr}{its:List Value}(h:s.heap.IsTuple l its.toArray):IsK s (.ref l) (.tup its.length)
 | lst {l:Addr}{its:List Value}(h:s.heap.IsList l its.toArray):IsK s (.ref l) (.lst its.length)
noncomputable def eqK (e:Nat->Bool):KD->KD->Bool
 | .non,.non=>true
 | .bl a,.bl b=>a == b
 | .bl a,.int b=>(if a then 1 else 0) == b
 | .int a,.bl b=>a == (if b then 1 else 0)
 | .int a,.int b=>a == b
 | .str a,.str b=>a == b
 | .tup n,.tup k=>(List.range (min n k)).all e&&n == k
 | .lst n,.lst k=>(List.range (min n k)).all e&&n == k
 | _,_=>false
noncomputable def ItemsEq (A:Around)(s:Shared)(u v:Value)(e:Nat->Bool):Prop:=
 (∀ l b items items2,u=.ref l->v=.ref b->s.heap.IsTuple l items->s.heap.IsTuple b items2->∀ j (h1:j<items.size)(h2:j<items2.size),EqAt A.in1 s items[j] items2[j] (e j)) /\
 (∀ l b items items2,u=.ref l->v=.ref b->s.heap.IsList l items->s.heap.IsList b items2->∀ j (h1:j<items.size)(h2:j<items2.size),EqAt A.in1 s items[j] items2[j] (e j))
section
variable {A:Around}{s:Shared}{u v:Value}{k k':KD}{e:Nat->Bool}
theorem list_res {n k:Nat}(e:Nat->Bool)(h:n=k):((List.range (min n k)).all e&&n == k)=(List.range n).all e:=by
 subst h
 simp
theorem list_res_ne {n k:Nat}(e:Nat->Bool)(h:n≠k):((List.range (min n k)).all e&&n == k)=false:=by
 simp [h]
theorem rc_of (h:IsK s u k)(h':IsK s v k')(hu:A.units<cLine)(he:ItemsEq A s u v e):RcAt A s u v (eqK e k k'):=by
 cases h with
 | non=>
  cases h' with
  | non=>exact RcAt.none_none
  | bl b=>exact RcAt.none_bool b
  | int i t=>exact RcAt.none_int i t
  | str x t=>exact RcAt.none_str x t
  | tup h=>exact RcAt.none_tuple h hu
  | lst h=>exact RcAt.none_list h hu
 | bl a=>
  cases h' with
  | non=>exact RcAt.bool_none a
  | bl b=>exact RcAt.bool_bool a b
  | int i t=>exact RcAt.bool_int a i t
  | str x t=>exact RcAt.bool_str a x t
  | tup h=>exact RcAt.bool_tuple a h hu
  | lst h=>exact RcAt.bool_list a h hu
 | int a ta=>
  cases h' with
  | non=>exact RcAt.int_none a ta
  | bl b=>exact RcAt.int_bool a ta b
  | int i t=>exact RcAt.int_int a ta i t
  | str x t=>exact RcAt.int_str a ta x t
  | tup h=>exact RcAt.int_tuple a ta h hu
  | lst h=>exact RcAt.int_list a ta h hu
 | str a ta=>
  cases h' with
  | non=>exact RcAt.str_none a ta
  | bl b=>exact RcAt.str_bool a ta b
  | int i t=>exact RcAt.str_int a ta i t
  | str x t=>exact RcAt.str_str a ta x t
  | tup h=>exact RcAt.str_tuple a ta h hu
  | lst h=>exact RcAt.str_list a ta h hu
 | tup g=>
  cases h' with
  | non=>exact RcAt.tuple_none g hu
  | bl b=>exact RcAt.tuple_bool b g hu
  | int i t=>exact RcAt.tuple_int i t g hu
  | str x t=>exact RcAt.tuple_str x t g hu
  | tup h=>
   have:=RcAt.tuples (e:=e) g h hu (he.1 _ _ _ _ rfl rfl g h)
   simpa [eqK] using this
  | lst h=>exact RcAt.tuple_list g h hu
 | lst g=>
  cases h' with
  | non=>exact RcAt.list_none g hu
  | bl b=>exact RcAt.list_bool b g hu
  | int i t=>exact RcAt.list_int i t g hu
  | str x t=>exact RcAt.list_str x t g hu
  | tup h=>exact RcAt.list_tuple g h hu
  | @lst b its2 h=>
   rename_i l its
   by_cases hl:its.length=its2.length
   ·have:=RcAt.lists (e:=e) g h (by simpa using hl) hu (he.2 _ _ _ _ rfl rfl g h)
    show RcAt A s _ _ ((List.range (min its.length its2.length)).all e&&its.length == its2.length)
    rw [list_res e hl]
    simpa using this
   ·have:=RcAt.lists_lengths g h (by simpa using hl) hu
    show RcAt A s _ _ ((List.range (min its.length its2.length)).all e&&its.length == its2.length)
    rw [list_res_ne e hl]
    exact this
theorem rcNe_of (h:IsK s u k)(h':IsK s v k')(hu:A.units<cLine)(he:ItemsEq A s u v e):RcNeAt A s u v (!eqK e k k'):=by
 cases h with
 | non=>
  cases h' with
  | non=>exact RcNeAt.none_none
  | bl b=>exact RcNeAt.none_bool b
  | int i t=>exact RcNeAt.none_int i t
  | str x t=>exact RcNeAt.none_str x t
  | tup h=>exact RcNeAt.none_tuple h hu
  | lst h=>exact RcNeAt.none_list h hu
 | bl a=>
  cases h' with
  | non=>exact RcNeAt.bool_none a
  | bl b=>exact RcNeAt.bool_bool a b
  | int i t=>exact RcNeAt.bool_int a i t
  | str x t=>exact RcNeAt.bool_str a x t
  | tup h=>exact RcNeAt.bool_tuple a h hu
  | lst h=>exact RcNeAt.bool_list a h hu
 | int a ta=>
  cases h' with
  | non=>exact RcNeAt.int_none a ta
  | bl b=>exact RcNeAt.int_bool a ta b
  | int i t=>exact RcNeAt.int_int a ta i t
  | str x t=>exact RcNeAt.int_str a ta x t
  | tup h=>exact RcNeAt.int_tuple a ta h hu
  | lst h=>exact RcNeAt.int_list a ta h hu
 | str a ta=>
  cases h' with
  | non=>exact RcNeAt.str_none a ta
  | bl b=>exact RcNeAt.str_bool a ta b
  | int i t=>exact RcNeAt.str_int a ta i t
  | str x t=>exact RcNeAt.str_str a ta x t
  | tup h=>exact RcNeAt.str_tuple a ta h hu
  | lst h=>exact RcNeAt.str_list a ta h hu
 | tup g=>
  cases h' with
  | non=>exact RcNeAt.tuple_none g hu
  | bl b=>exact RcNeAt.tuple_bool b g hu
  | int i t=>exact RcNeAt.tuple_int i t g hu
  | str x t=>exact RcNeAt.tuple_str x t g hu
  | tup h=>
   have:=RcNeAt.tuples (e:=e) g h hu (he.1 _ _ _ _ rfl rfl g h)
   simpa [eqK] using this
  | lst h=>exact RcNeAt.tuple_list g h hu
 | lst g=>
  cases h' with
  | non=>exact RcNeAt.list_none g hu
  | bl b=>exact RcNeAt.list_bool b g hu
  | int i t=>exact RcNeAt.list_int i t g hu
  | str x t=>exact RcNeAt.list_str x t g hu
  | tup h=>exact RcNeAt.list_tuple g h hu
  | @lst b its2 h=>
   rename_i l its
   by_cases hl:its.length=its2.length
   ·have:=RcNeAt.lists (e:=e) g h (by simpa using hl) hu (he.2 _ _ _ _ rfl rfl g h)
    show RcNeAt A s _ _ (!((List.range (min its.length its2.length)).all e&&its.length == its2.length))
    rw [list_res e hl]
    simpa using this
   ·have:=RcNeAt.lists_lengths g h (by simpa using hl) hu
    show RcNeAt A s _ _ (!((List.range (min its.length its2.length)).all e&&its.length == its2.length))
    rw [list_res_ne e hl]
    exact this
theorem eq_of (h:IsK s u k)(h':IsK s v k')(hu:A.units<cLine)(he:ItemsEq A s u v e)(hne:∀ l b,u=.ref l->v=.ref b->l≠b):EqAt A s u v (eqK e k k'):=by
 cases h with
 | non=>
  cases h' with
  | non=>exact EqAt.same _
  | bl b=>exact EqAt.none_bool b
  | int i t=>exact EqAt.none_int i t
  | str x t=>exact EqAt.none_str x t
  | tup h=>exact EqAt.none_tuple h hu
  | lst h=>exact EqAt.none_list h hu
 | bl a=>
  cases h' with
  | non=>exact EqAt.bool_none a
  | bl b=>exact EqAt.bool_bool a b
  | int i t=>exact EqAt.bool_int a i t
  | str x t=>exact EqAt.bool_str a x t
  | tup h=>exact EqAt.bool_tuple a h hu
  | lst h=>exact EqAt.bool_list a h hu
 | int a ta=>
  cases h' with
  | non=>exact EqAt.int_none a ta
  | bl b=>exact EqAt.int_bool a ta b
  | int i t=>exact EqAt.int_int a ta i t
  | str x t=>exact EqAt.int_str a ta x t
  | tup h=>exact EqAt.int_tuple a ta h hu
  | lst h=>exact EqAt.int_list a ta h hu
 | str a ta=>
  cases h' with
  | non=>exact EqAt.str_none a ta
  | bl b=>exact EqAt.str_bool a ta b
  | int i t=>exact EqAt.str_int a ta i t
  | str x t=>exact EqAt.str_str a ta x t
  | tup h=>exact EqAt.str_tuple a ta h hu
  | lst h=>exact EqAt.str_list a ta h hu
 | @tup l its g=>
  cases h' with
  | non=>exact EqAt.tuple_none g hu
  | bl b=>exact EqAt.tuple_bool b g hu
  | int i t=>exact EqAt.tuple_int i t g hu
  | str x t=>exact EqAt.tuple_str x t g hu
  | @tup b its2 h=>exact EqAt.of_refs (hne l b rfl rfl) (rc_of (k:=.tup its.length) (k':=.tup its2.length) (.tup g) (.tup h) hu he)
  | lst h=>exact EqAt.tuple_list g h hu
 | @lst l its g=>
  cases h' with
  | non=>exact EqAt.list_none g hu
  | bl b=>exact EqAt.list_bool b g hu
  | int i t=>exact EqAt.list_int i t g hu
  | str x t=>exact EqAt.list_str x t g hu
  | tup h=>exact EqAt.list_tuple g h hu
  | @lst b its2 h=>exact EqAt.of_refs (hne l b rfl rfl) (rc_of (k:=.lst its.length) (k':=.lst its2.length) (.lst g) (.lst h) hu he)
end
inductive KdD where
 | non|bl (b:Bool)|int (i:Int)|str (x:Str)|tup (xs:List D)|lst (xs:List D)
noncomputable def kindD (μ:Hm):D->Option KdD
 | .non=>some .non
 | .bl b=>some (.bl b)
 | .int i=>some (.int i)
 | .str x=>some (.str x)
 | .tup xs=>some (.tup xs)
 | .rol xs=>some (.lst xs)
 | .loc a=>match μ[a]? with|some (.lst xs)=>some (.lst xs)|_=>none
 | .ty _=>none
noncomputable def eqs (f:D->D->Option Bool):List D->List D->Option Bool
 | x::xs,y::ys=>(f x y).bind fun b=>(eqs f xs ys).map fun c=>b&&c
 | [],[]=>some true
 | _,_=>some false
noncomputable def eqKd (f:D->D->Option Bool):KdD->KdD->Option Bool
 | .non,.non=>some true
 | .bl a,.bl b=>some (a == b)
 | .bl a,.int b=>some ((if a then 1 else 0) == b)
 | .int a,.bl b=>some (a == (if b then 1 else 0))
 | .int a,.int b=>some (a == b)
 | .str a,.str b=>some (a == b)
 | .tup xs,.tup ys=>eqs f xs ys
 | .lst xs,.lst ys=>eqs f xs ys
 | _,_=>some false
noncomputable def eqD:Nat->Hm->D->D->Option Bool
 | 0,_,_,_=>none
 | n+1,μ,x,y=>(kindD μ x).bind fun a=>(kindD μ y).bind fun b=>eqKd (eqD n μ) a b
noncomputable def kdOf:KdD->KD
 | .non=>.non|.bl b=>.bl b|.int i=>.int i|.str x=>.str x|.tup xs=>.tup xs.length|.lst xs=>.lst xs.length
noncomputable def itsOf:KdD->List D
 | .tup xs=>xs|.lst xs=>xs|_=>[]
section
variable {X:Cx}{pins:List (Addr×Obj)}{σ:St}{H:Hp}{s:Shared}{π:Nat->Addr}{μ:Hm}
inductive KdAt (X:Cx)(π:Nat->Addr)(n:Nat)(H:Hp)(s:Shared)(u:Value):KdD->Prop where
 | non (h:u=.none):KdAt X π n H s u .non
 | bl (b:Bool)(h:u=.bool b):KdAt X π n H s u (.bl b)
 | int (i:Int)(t:Tok)(h:u=.int i t):KdAt X π n H s u (.int i)
 | str (x:Str)(t:Tok)(h:u=.str x t):KdAt X π n H s u (.str x)
 | tup {xs:List D}(p:Addr)(vs:List V)(its:List Value)(h:u=.ref p)(q:SqT X.K H p vs)(i:IsDs X.K π n H vs xs)(r:Vals vs its)(t:s.heap.IsTuple p its.toArray):KdAt X π n H s u (.tup xs)
 | lst {xs:List D}(p:Addr)(vs:List V)(its:List Value)(h:u=.ref p)(q:SqL X.K H p vs)(i:IsDs X.K π n H vs xs)(r:Vals vs its)(t:s.heap.IsList p its.toArray):KdAt X π n H s u (.lst xs)
theorem kd_at (I:Inv X pins σ H s)(R:Rp X.K π H μ){v:V}{d:D}{u:Value}(h:IsD X.K π μ.length H v d)(r:RelV v u){k:KdD}(e:kindD μ d=some k):KdAt X π μ.length H s u k:=by
 cases h with
 | non=>cases e;exact .non r
 | bl b=>cases e;exact .bl b r
 | int i=>cases e;obtain ⟨t,q⟩:=r;exact .int i t q
 | str x=>cases e;obtain ⟨t,q⟩:=r;exact .str x t q
 | ty x=>cases e
 | tup q t=>
  cases e
  obtain ⟨its,r',p,_⟩:=I.tuple q
  exact .tup _ _ its r q t r' p
 | rol q t=>
  cases e
  obtain ⟨its,r',p,_⟩:=I.list q.sq
  exact .lst _ _ its r q.sq t r' p.isList
 | @loc a ha=>
  simp only [kindD] at e
  split at e
  ·rename_i xs hx
   cases e
   obtain ⟨vs,h1,h2⟩:=R.lst a xs hx
   have q:SqL X.K H (π a) vs:=.of h1
   obtain ⟨its,r',p,_⟩:=I.list q
   exact .lst _ _ its r q h2 r' p.isList
  ·cases e
theorem KdAt.isK {u:Value}{k:KdD}{n:Nat}(h:KdAt X π n H s u k):IsK s u (kdOf k):=by
 cases h with
 | non h=>subst h;exact .non
 | bl b h=>subst h;exact .bl b
 | int i t h=>subst h;exact .int i t
 | str x t h=>subst h;exact .str x t
 | tup p vs its h q i r t=>
  subst h
  have:its.length=_:=r.length.symm.trans i.length
  show IsK s (.ref p) (.tup _)
  rw [<- this]
  exact .tup t
 | lst p vs its h q i r t=>
  subst h
  have:its.length=_:=r.length.symm.trans i.length
  show IsK s (.ref p) (.lst _)
  rw [<- this]
  exact .lst t
noncomputable def ansAt (f:D->D->Option Bool)(xs ys:List D)(j:Nat):Bool:=match xs[j]?,ys[j]? with
 | some x,some y=>(f x y).getD false
 | _,_=>false
theorem eqs_ans {f:D->D->Option Bool}:∀ {xs ys:List D}{b:Bool},eqs f xs ys=some b->b=((List.range (min xs.length ys.length)).all (ansAt f xs ys)&&xs.length == ys.length)/\∀ (j:Nat) x y,xs[j]? = some x->ys[j]? = some y->f x y=some (ansAt f xs ys j)
 | [],[],b,h=>by
  cases h
  exact ⟨rfl,fun j x y e=>by simp at e⟩
 | x::xs,[],b,h=>by
  cases h
  exact ⟨by simp,fun j x y _ e=>by simp at e⟩
 | [],y::ys,b,h=>by
  cases h
  exact ⟨by simp,fun j x y e=>by simp at e⟩
 | x::xs,y::ys,b,h=>by
  simp only [eqs] at h
  obtain ⟨c,h1,h2⟩:=Option.bind_eq_some_iff.mp h
  obtain ⟨d,h3,h4⟩:=Option.map_eq_some_iff.mp h2
  obtain ⟨i1,i2⟩:=eqs_ans h3
  have h0:ansAt f (x::xs) (y::ys) 0=c:=by simp [ansAt,h1]
  have hs:∀ j,ansAt f (x::xs) (y::ys) (j+1)=ansAt f xs ys j:=fun j=>by simp [ansAt]
  refine ⟨?_,fun j x' y' e1 e2=>?_⟩
  ·subst h4
   rw [i1]
   simp only [List.length_cons,Nat.add_min_add_right]
   rw [List.range_succ_eq_map,List.all_cons,List.all_map,h0]
   have:(ansAt f (x::xs) (y::ys) ∘ Nat.succ)=ansAt f xs ys:=funext fun j=>hs j
   rw [this]
   simp [Bool.and_assoc]
  ·cases j with
   | zero=>
    simp at e1 e2
    subst e1;subst e2
    rw [h0,h1]
   | succ j=>
    rw [hs j]
    exact i2 j x' y' (by simpa using e1) (by simpa using e2)
theorem eqKd_ans {f:D->D->Option Bool}{k k':KdD}{b:Bool}(h:eqKd f k k'=some b):b=eqK (ansAt f (itsOf k) (itsOf k')) (kdOf k) (kdOf k'):=by
 cases k<;>cases k'<;>simp only [eqKd] at h<;>first
  | (have h':=Option.some.inj h;subst h';rfl)
  | (obtain ⟨h1,_⟩:=eqs_ans h;rw [h1];rfl)
theorem eq_same (I:Inv X pins σ H s)(R:Rp X.K π H μ):∀ (n:Nat){v:V}{u:Value}{x y:D}{b:Bool},RelV v u->IsD X.K π μ.length H v x->IsD X.K π μ.length H v y->eqD n μ x y=some b->b=true:=by
 intro n
 induction n with
 | zero=>intro v u x y b _ _ _ h;cases h
 | succ n ih=>
  intro v u x y b r hx hy h
  obtain ⟨k,h1,h⟩:=Option.bind_eq_some_iff.mp h
  obtain ⟨k',h2,h⟩:=Option.bind_eq_some_iff.mp h
  have a1:=kd_at I R hx r h1
  have a2:=kd_at I R hy r h2
  have lists:∀ {vs:List V}{xs ys:List D}{c:Bool},(∀ v∈vs,∃ u,RelV v u)->IsDs X.K π μ.length H vs xs->IsDs X.K π μ.length H vs ys->eqs (eqD n μ) xs ys=some c->c=true:=by
   intro vs
   induction vs with
   | nil=>intro xs ys c _ i1 i2 h;cases i1;cases i2;cases h;rfl
   | cons w vs ihv=>
    intro xs ys c hr i1 i2 h
    cases i1 with
    | cons p1 t1=>
     cases i2 with
     | cons p2 t2=>
      simp only [eqs] at h
      obtain ⟨c1,h1,h3⟩:=Option.bind_eq_some_iff.mp h
      obtain ⟨c2,h4,h5⟩:=Option.map_eq_some_iff.mp h3
      obtain ⟨u',ru⟩:=hr w (List.mem_cons_self ..)
      have e1:=ih ru p1 p2 h1
      have e2:=ihv (fun v hv=>hr v (List.mem_cons_of_mem _ hv)) t1 t2 h4
      subst e1;subst e2
      exact h5.symm
  cases a1 with
  | non e1=>
   subst e1
   cases a2 with
   | non _=>simp only [eqKd] at h;exact (Option.some.inj h).symm
   | bl _ e=>cases e
   | int _ _ e=>cases e
   | str _ _ e=>cases e
   | tup _ _ _ e=>cases e
   | lst _ _ _ e=>cases e
  | bl c e1=>
   subst e1
   cases a2 with
   | non e=>cases e
   | bl _ e=>cases e;simp only [eqKd,beq_self_eq_true] at h;exact (Option.some.inj h).symm
   | int _ _ e=>cases e
   | str _ _ e=>cases e
   | tup _ _ _ e=>cases e
   | lst _ _ _ e=>cases e
  | int c t e1=>
   subst e1
   cases a2 with
   | non e=>cases e
   | bl _ e=>cases e
   | int _ _ e=>cases e;simp only [eqKd,beq_self_eq_true] at h;exact (Option.some.inj h).symm
   | str _ _ e=>cases e
   | tup _ _ _ e=>cases e
   | lst _ _ _ e=>cases e
  | str c t e1=>
   subst e1
   cases a2 with
   | non e=>cases e
   | bl _ e=>cases e
   | int _ _ e=>cases e
   | str _ _ e=>cases e;simp only [eqKd,beq_self_eq_true] at h;exact (Option.some.inj h).symm
   | tup _ _ _ e=>cases e
   | lst _ _ _ e=>cases e
  | tup p vs its e1 q i rv t=>
   have z:KdAt X π μ.length H s (.ref p) _:=e1 ▸ KdAt.tup p vs its e1 q i rv t
   rw [e1] at a2
   cases a2 with
   | non e=>cases e
   | bl _ e=>cases e
   | int _ _ e=>cases e
   | str _ _ e=>cases e
   | tup p2 vs2 its2 e2 q2 i2 rv2 t2=>
    cases e2
    have:=I.tuple_inj q q2
    subst this
    exact lists (fun v hv=>by
     obtain ⟨j,hj,rfl⟩:=List.getElem_of_mem hv
     obtain ⟨u',_,ru⟩:=rv.get (List.getElem?_eq_getElem hj)
     exact ⟨u',ru⟩) i i2 h
   | lst p2 vs2 its2 e2 q2 i2 rv2 t2=>
    cases e2
    exact absurd rfl (SeqAt.ne_of_list_tuple t2 t)
  | lst p vs its e1 q i rv t=>
   rw [e1] at a2
   cases a2 with
   | non e=>cases e
   | bl _ e=>cases e
   | int _ _ e=>cases e
   | str _ _ e=>cases e
   | tup p2 vs2 its2 e2 q2 i2 rv2 t2=>
    cases e2
    exact absurd rfl (SeqAt.ne_of_list_tuple t t2)
   | lst p2 vs2 its2 e2 q2 i2 rv2 t2=>
    cases e2
    have:=I.list_inj q q2
    subst this
    exact lists (fun v hv=>by
     obtain ⟨j,hj,rfl⟩:=List.getElem_of_mem hv
     obtain ⟨u',_,ru⟩:=rv.get (List.getElem?_eq_getElem hj)
     exact ⟨u',ru⟩) i i2 h
theorem in1_units (A:Around):A.in1.units=A.units+1:=rfl
theorem items_eq (I:Inv X pins σ H s){A:Around}{n:Nat}(ih:∀ {A:Around}{v v':V}{u u':Value}{x y:D}{b:Bool},A.units+n<cLine->RelV v u->RelV v' u'->IsD X.K π μ.length H v x->IsD X.K π μ.length H v' y->eqD n μ x y=some b->EqAt A s u u' b)
  (hu:A.units+(n+1)<cLine){u u':Value}{k k':KdD}{b:Bool}(a1:KdAt X π μ.length H s u k)(a2:KdAt X π μ.length H s u' k')(h:eqKd (eqD n μ) k k'=some b):ItemsEq A s u u' (ansAt (eqD n μ) (itsOf k) (itsOf k')):=by
 have core:∀ {vs vs':List V}{its its':List Value}{xs ys:List D}{c:Bool},Vals vs its->Vals vs' its'->IsDs X.K π μ.length H vs xs->IsDs X.K π μ.length H vs' ys->eqs (eqD n μ) xs ys=some c->
   ∀ j (h1:j<its.length)(h2:j<its'.length),EqAt A.in1 s its[j] its'[j] (ansAt (eqD n μ) xs ys j):=by
  intro vs vs' its its' xs ys c r r' i i' e j h1 h2
  have l1:=r.length
  have l2:=r'.length
  have l3:=i.length
  have l4:=i'.length
  have hx:xs[j]? = some (xs[j]'(by omega)):=List.getElem?_eq_getElem _
  have hy:ys[j]? = some (ys[j]'(by omega)):=List.getElem?_eq_getElem _
  obtain ⟨v,v1,v2⟩:=i.get hx
  obtain ⟨v',v1',v2'⟩:=i'.get hy
  obtain ⟨w,w1,w2⟩:=r.get v1
  obtain ⟨w',w1',w2'⟩:=r'.get v1'
  rw [List.getElem?_eq_getElem h1] at w1
  rw [List.getElem?_eq_getElem h2] at w1'
  cases w1
  cases w1'
  exact ih (by rw [in1_units];omega) w2 w2' v2 v2' ((eqs_ans e).2 j _ _ hx hy)
 constructor
 ·intro l b' items items2 e1 e2 t1 t2 j h1 h2
  subst e1;subst e2
  cases a1 with
  | tup p vs its e q i r t=>
   cases e
   cases a2 with
   | tup p2 vs2 its2 e' q2 i2 r2 t'=>
    cases e'
    have z1:items=its.toArray:=by
     obtain ⟨o,g1,g2,n1,g3⟩:=t1
     obtain ⟨o',g1',g2',n1',g3'⟩:=t
     rw [g1] at g1';cases g1'
     rw [g3] at g3'
     injection g3'
    have z2:items2=its2.toArray:=by
     obtain ⟨o,g1,g2,n1,g3⟩:=t2
     obtain ⟨o',g1',g2',n1',g3'⟩:=t'
     rw [g1] at g1';cases g1'
     rw [g3] at g3'
     injection g3'
    subst z1;subst z2
    have:=core r r2 i i2 h j (by simpa using h1) (by simpa using h2)
    simpa [itsOf] using this
   | lst p2 vs2 its2 e' q2 i2 r2 t'=>
    cases e'
    exact absurd rfl (SeqAt.ne_of_list_tuple t' t2)
   | non e'=>cases e'
   | bl _ e'=>cases e'
   | int _ _ e'=>cases e'
   | str _ _ e'=>cases e'
  | lst p vs its e q i r t=>
   cases e
   exact absurd rfl (SeqAt.ne_of_list_tuple t t1)
  | non e=>cases e
  | bl _ e=>cases e
  | int _ _ e=>cases e
  | str _ _ e=>cases e
 ·intro l b' items items2 e1 e2 t1 t2 j h1 h2
  subst e1;subst e2
  cases a1 with
  | lst p vs its e q i r t=>
   cases e
   cases a2 with
   | lst p2 vs2 its2 e' q2 i2 r2 t'=>
    cases e'
    have z1:items=its.toArray:=by
     obtain ⟨o,g1,g2,n1,g3⟩:=t1
     obtain ⟨o',g1',g2',n1',g3'⟩:=t
     rw [g1] at g1';cases g1'
     rw [g3] at g3'
     injection g3'
    have z2:items2=its2.toArray:=by
     obtain ⟨o,g1,g2,n1,g3⟩:=t2
     obtain ⟨o',g1',g2',n1',g3'⟩:=t'
     rw [g1] at g1';cases g1'
     rw [g3] at g3'
     injection g3'
    subst z1;subst z2
    have:=core r r2 i i2 h j (by simpa using h1) (by simpa using h2)
    simpa [itsOf] using this
   | tup p2 vs2 its2 e' q2 i2 r2 t'=>
    cases e'
    exact absurd rfl (SeqAt.ne_of_list_tuple t2 t')
   | non e'=>cases e'
   | bl _ e'=>cases e'
   | int _ _ e'=>cases e'
   | str _ _ e'=>cases e'
  | tup p vs its e q i r t=>
   cases e
   exact absurd rfl (SeqAt.ne_of_list_tuple t1 t)
  | non e=>cases e
  | bl _ e=>cases e
  | int _ _ e=>cases e
  | str _ _ e=>cases e
theorem eq_at (I:Inv X pins σ H s)(R:Rp X.K π H μ):∀ (n:Nat){A:Around}{v v':V}{u u':Value}{x y:D}{b:Bool},A.units+n<cLine->RelV v u->RelV v' u'->IsD X.K π μ.length H v x->IsD X.K π μ.length H v' y->eqD n μ x y=some b->EqAt A s u u' b:=by
 intro n
 induction n with
 | zero=>intro A v v' u u' x y b _ _ _ _ _ h;cases h
 | succ n ih=>
  intro A v v' u u' x y b hu r r' hx hy h
  have h0:=h
  obtain ⟨k,h1,h⟩:=Option.bind_eq_some_iff.mp h
  obtain ⟨k',h2,h⟩:=Option.bind_eq_some_iff.mp h
  have a1:=kd_at I R hx r h1
  have a2:=kd_at I R hy r' h2
  by_cases hs:u=u'
  ·subst hs
   have:v=v':=r.inj r'
   subst this
   have:=eq_same I R (n+1) r hx hy h0
   subst this
   exact EqAt.same _
  ·have he:=items_eq I ih hu a1 a2 h
   rw [eqKd_ans h]
   exact eq_of a1.isK a2.isK (by omega) he fun l b' e1 e2 z=>hs (by rw [e1,e2,z])
theorem rc_at (I:Inv X pins σ H s)(R:Rp X.K π H μ)(n:Nat){A:Around}{v v':V}{u u':Value}{x y:D}{b:Bool}(hu:A.units+n<cLine)(r:RelV v u)(r':RelV v' u')(hx:IsD X.K π μ.length H v x)(hy:IsD X.K π μ.length H v' y)(h:eqD n μ x y=some b) :
  RcAt A s u u' b/\RcNeAt A s u u' (!b):=by
 cases n with
 | zero=>cases h
 | succ n=>
  obtain ⟨k,h1,h⟩:=Option.bind_eq_some_iff.mp h
  obtain ⟨k',h2,h⟩:=Option.bind_eq_some_iff.mp h
  have a1:=kd_at I R hx r h1
  have a2:=kd_at I R hy r' h2
  have he:=items_eq I (A:=A) (eq_at I R n) hu a1 a2 h
  rw [eqKd_ans h]
  exact ⟨rc_of a1.isK a2.isK (by omega) he,rcNe_of a1.isK a2.isK (by omega) he⟩
end
end L3
namespace L3
open PySem L2
open SeqAt (EqAt RcAt RcNeAt)
section
variable {K:PySem.W.Frag}
noncomputable def intOp (g:Int->Int->Option Int):D->D->Hm->Option (D×Hm)
 | .int i,.int j,μ=>(g i j).map fun z=>(.int z,μ)
 | _,_,_=>none
theorem intOp_inv {g:Int->Int->Option Int}{x y d:D}{μ μ':Hm}(h:intOp g x y μ=some (d,μ')):∃ i j z,x=.int i/\y=.int j/\g i j=some z/\d=.int z/\μ'=μ:=by
 unfold intOp at h
 split at h
 ·rename_i i j
  obtain ⟨z,h1,h2⟩:=Option.map_eq_some_iff.mp h
  cases h2
  exact ⟨i,j,z,rfl,rfl,h1,rfl,rfl⟩
 ·cases h
theorem intOp_ok {Cc:Int->Int->Prop}{g:Int->Int->Option Int}{g':Int->Int->Int}(hg:∀ i j z,g i j=some z->Cc i j/\z=g' i j):OpD K (intOp g) (rI Cc fun i j=>.int (g' i j)):=by
 intro π H μ x y d μ' vx vy Q R ix iy hm k
 obtain ⟨i,j,z,rfl,rfl,h1,rfl,rfl⟩:=intOp_inv hm
 cases ix
 cases iy
 obtain ⟨c,rfl⟩:=hg i j z h1
 exact ⟨i,j,rfl,rfl,c,k π _ H .refl R (.int _)⟩
theorem intOp_ok0 {g':Int->Int->Int}:OpD K (intOp fun i j=>some (g' i j)) (rI0 fun i j=>.int (g' i j)):=by
 intro π H μ x y d μ' vx vy Q R ix iy hm k
 obtain ⟨i,j,z,rfl,rfl,h1,rfl,rfl⟩:=intOp_inv hm
 cases ix
 cases iy
 cases h1
 exact ⟨i,j,rfl,rfl,k π _ H .refl R (.int _)⟩
noncomputable def subD:=intOp fun i j=>some (i - j)
noncomputable def mulI:=intOp fun i j=>if ((-(2 ^ 64)<i/\i<2 ^ 64)\/(-(2 ^ 64)<j/\j<2 ^ 64))\/(i.natAbs<2 ^ 4000/\j.natAbs<2 ^ 4000)\/Builtin.Int.intBits i+Builtin.Int.intBits j<=134217728 then some (i * j) else none
noncomputable def mulD:D->D->Hm->Option (D×Hm)
 | x,y,μ=>mulI x y μ
noncomputable def fdivD:=intOp fun i j=>if 0<j/\j<2 ^ 4000 then some (i / j) else none
noncomputable def modD:=intOp fun i j=>if 0<j then some (i % j) else none
noncomputable def powD:=intOp fun i j=>if (0<=j/\j<=1000000/\i.natAbs<2 ^ 64)\/(0<=j/\j<=100/\i.natAbs<2 ^ 4000) then some (i ^ j.toNat) else none
noncomputable def CMulB (i j:Int):Prop:=CMul i j\/(i.natAbs<2 ^ 4000/\j.natAbs<2 ^ 4000)\/Builtin.Int.intBits i+Builtin.Int.intBits j<=134217728
noncomputable def CDivB (i j:Int):Prop:=0<j/\j<2 ^ 4000
noncomputable def CPowB (i j:Int):Prop:=CPow i j\/(0<=j/\j<=100/\i.natAbs<2 ^ 4000)
theorem bits_big {i:Int}(h:i.natAbs<2 ^ 4000):Builtin.Int.intBits i<=4000:=by
 unfold Builtin.Int.intBits
 split
 ·exact Nat.zero_le _
 ·rename_i hz
  have h0:i.natAbs≠0:=by
   intro z
   exact hz (by simpa using z)
  have:=(Nat.log2_lt h0).mpr h
  omega
theorem CMulB.ok {i j:Int}(h:CMulB i j):IntMulOk i j:=by
 rcases h with h|⟨h1,h2⟩|h
 ·exact h.ok
 rotate_left
 ·have hl:Builtin.Int.intTooBig (Builtin.Int.intBits i+Builtin.Int.intBits j)=false:=by
   unfold Builtin.Int.intTooBig
   rw [decide_eq_false]
   have:bitsLine=134217728:=by decide
   omega
  unfold IntMulOk
  rw [hl]
  simp
 ·have b1:=bits_big h1
  have b2:=bits_big h2
  have hl:Builtin.Int.intTooBig (Builtin.Int.intBits i+Builtin.Int.intBits j)=false:=by
   unfold Builtin.Int.intTooBig
   rw [decide_eq_false]
   have:(8000:Int)<=bitsLine:=by decide
   omega
  unfold IntMulOk
  rw [hl]
  simp
section
variable {X:Cx}
theorem op_mulB:OpR X (binaryOp .Mult) (rI CMulB fun i j=>.int (i * j)):=opI fun _ _ _ _ _ _ _ hc q=>PyProof.Rows.mul_int q hc.ok
theorem op_fdivB:OpR X (binaryOp .FloorDiv) (rI CDivB fun i j=>.int (i / j)):=opI fun i j _ _ _ _ _ hc q=>by
 have h1:(0:Int)<j:=hc.1
 have h2:j<2 ^ 4000:=hc.2
 have h0:j.natAbs≠0:=by omega
 have h3:j.natAbs<2 ^ 4000:=by
  have:((2 ^ 4000:Nat):Int)=2 ^ 4000:=by decide
  omega
 have h4:=(Nat.log2_lt h0).mpr h3
 exact PyProof.Rows.floordiv_int (by omega) (by rw [Int.fdiv_eq_ediv_of_nonneg i (by omega)];exact q) (.inl (PyProof.noPylong_of_log2 (by omega)))
theorem op_powB:OpR X (binaryOp .Pow) (rI CPowB fun i j=>.int (i ^ j.toNat)):=opI fun i j _ _ _ _ _ hc q=>by
 rcases hc with hc|⟨h1,h2,h3⟩
 ·exact PyProof.Rows.pow_int_small hc.1 hc.2.1 hc.2.2 q
 ·have b:=bits_big h3
  refine PyProof.Rows.pow_int h1 ?_ q
  have:(Builtin.Int.intBits i:Int) * j<=4000 * 100:=Int.mul_le_mul (by omega) h2 h1 (by omega)
  omega
end
theorem ifsome {c:Prop} [Decidable c] {a z:Int}(h:(if c then some a else none)=some z):c/\z=a:=by
 split at h
 ·cases h;exact ⟨by assumption,rfl⟩
 ·cases h
theorem subD_ok:OpD K subD (rI0 fun i j=>.int (i - j)):=intOp_ok0
theorem mulI_ok:OpD K mulI (rI CMulB fun i j=>.int (i * j)):=intOp_ok fun i j z h=>by
 have:=ifsome h
 exact this
theorem mulD_ok:OpD K mulD (rI CMulB fun i j=>.int (i * j)):=mulI_ok
theorem fdivD_ok:OpD K fdivD (rI CDivB fun i j=>.int (i / j)):=intOp_ok fun i j z h=>by
 have:=ifsome h
 exact this
theorem modD_ok:OpD K modD (rI (fun _ j=>0<j) fun i j=>.int (i % j)):=intOp_ok fun _ _ _ h=>ifsome h
theorem powD_ok:OpD K powD (rI CPowB fun i j=>.int (i ^ j.toNat)):=intOp_ok fun i j z h=>by
 have:=ifsome h
 exact this
noncomputable def negD:D->Option D
 | .int i=>some (.int (-i))
 | _=>none
noncomputable def addD:D->D->Hm->Option (D×Hm)
 | .int i,.int j,μ=>some (.int (i+j),μ)
 | .str x,.str y,μ=>if x.length+y.length<=sizeLine then some (.str (x++y),μ) else none
 | .loc a,.loc b,μ=>match μ[a]?,μ[b]? with
  | some (.lst xs),some (.lst ys)=>if xs.length+ys.length<=sizeLine then some (.loc μ.length,μ++[.lst (xs++ys)]) else none
  | _,_=>none
 | _,_,_=>none
noncomputable def rAddB (K:PySem.W.Frag):R2:=fun x y H Q=>rI0 (fun i j=>.int (i+j)) x y H Q\/(∃ i j,x=.str i/\y=.str j/\i.length+j.length<=sizeLine/\Q (.str (i++j)) H)\/rCat x y H Q
theorem op_addB {X:Cx}:OpR X (binaryOp .Add) (rAddB X.K):=op_add.or (op_add_str.or op_cat)
noncomputable abbrev rAddD (K:PySem.W.Frag):R2:=rAddB K
theorem op_addD {X:Cx}:OpR X (binaryOp .Add) (rAddD X.K):=op_addB
theorem addB_D {K:PySem.W.Frag}{x y:V}{H:Hp}{Q:VK}(h:rAddB K x y H Q):rAddD K x y H Q:=h
theorem addD_ok:OpD K addD (rAddD K):=by
 intro π H μ x y d μ' vx vy Q R ix iy hm k
 unfold addD at hm
 split at hm
 ·cases hm
  cases ix
  cases iy
  exact addB_D (.inl ⟨_,_,rfl,rfl,k π _ H .refl R (.int _)⟩)
 ·split at hm
  ·rename_i hl
   cases hm
   cases ix
   cases iy
   exact addB_D (.inr (.inl ⟨_,_,rfl,rfl,hl,k π _ H .refl R (.str _)⟩))
  ·cases hm
 ·split at hm
  ·rename_i xs ys ha hb
   split at hm
   ·rename_i hl
    cases hm
    cases ix
    cases iy
    obtain ⟨vs,h1,h2⟩:=R.lst _ xs ha
    obtain ⟨ws,h3,h4⟩:=R.lst _ ys hb
    refine addB_D (.inr (.inr ⟨_,_,vs,ws,rfl,rfl,by first|exact h1|exact .inl (.inl h1),h3,by rw [h2.length,h4.length];exact hl,fun p hp=>?_⟩))
    obtain ⟨e2,R2,q⟩:=R.alloc (c:=.lst (xs++ys)) (o:=.lst (vs++ws)) hp (h2.append h4)
    exact k _ _ _ e2 R2 alloc_loc
   ·cases hm
  ·cases hm
 ·cases hm
noncomputable def intCmp (p:Int->Int->Bool):D->D->Hm->Option (D×Hm)
 | .int i,.int j,μ=>some (.bl (p i j),μ)
 | _,_,_=>none
theorem intCmp_ok {p:Int->Int->Bool}:OpD K (intCmp p) (rI0 fun i j=>.bl (p i j)):=by
 intro π H μ x y d μ' vx vy Q R ix iy hm k
 unfold intCmp at hm
 split at hm
 ·cases hm
  cases ix
  cases iy
  exact ⟨_,_,rfl,rfl,k π _ H .refl R (.bl _)⟩
 ·cases hm
noncomputable def ltD:=intCmp fun i j=>decide (i<j)
noncomputable def leD:=intCmp fun i j=>decide (i<=j)
noncomputable def gtD:=intCmp fun i j=>decide (j<i)
noncomputable def geD:=intCmp fun i j=>decide (j<=i)
noncomputable def rEqD (K:PySem.W.Frag)(ne:Bool):R2:=fun x y H Q=>∃ π μ dx dy b,Rp K π H μ/\IsD K π μ.length H x dx/\IsD K π μ.length H y dy/\eqD 8 μ dx dy=some b/\Q (.bl (if ne then !b else b)) H
theorem op_eqD {X:Cx}(hu:X.A.units+8<cLine):OpR X (compareOp .Eq) (rEqD X.K false):=by
 intro pins s σ H x y v u Q I rx ry h
 obtain ⟨π,μ,dx,dy,b,R,ix,iy,e,q⟩:=h
 exact (rc_at I R 8 hu rx ry ix iy e).1 _ _ _ _ ⟨.bl b,H,I,rfl,q⟩
theorem op_neD {X:Cx}(hu:X.A.units+8<cLine):OpR X (compareOp .NotEq) (rEqD X.K true):=by
 intro pins s σ H x y v u Q I rx ry h
 obtain ⟨π,μ,dx,dy,b,R,ix,iy,e,q⟩:=h
 exact (rc_at I R 8 hu rx ry ix iy e).2 _ _ _ _ ⟨.bl (!b),H,I,rfl,q⟩
noncomputable def eqM (ne:Bool):D->D->Hm->Option (D×Hm):=fun x y μ=>(eqD 8 μ x y).map fun b=>(.bl (if ne then !b else b),μ)
theorem eqM_ok {ne:Bool}:OpD K (eqM ne) (rEqD K ne):=by
 intro π H μ x y d μ' vx vy Q R ix iy hm k
 obtain ⟨b,h1,h2⟩:=Option.map_eq_some_iff.mp hm
 cases h2
 exact ⟨π,μ,x,y,b,R,ix,iy,h1,k π _ H .refl R (.bl _)⟩
end
section
variable {X:Cx}{a b c:Expr}{ma mb mc:ME}{pos:Pos}
theorem hu8 {k:Nat}{A:Around}(r:Room k A):A.units+8<cLine:=by have:=r.un;omega
theorem pm_neg (ha:PE X a (tM X.K ma)):PE X (.UnaryOp .USub a pos) (tM X.K (fun ρ μ=>(ma ρ μ).bind fun p=>(negD p.1).map fun d=>(d,p.2))):=pm_weak (pe_un un_neg ha) (by
 rintro σ H Q ⟨π,ρ,μ,d,μ',R,E,hm,k⟩
 obtain ⟨⟨x,μ1⟩,h1,hm⟩:=Option.bind_eq_some_iff.mp hm
 obtain ⟨y,h2,h3⟩:=Option.map_eq_some_iff.mp hm
 cases h3
 cases x with
 | int i=>
  cases h2
  refine ⟨π,ρ,μ,_,_,R,E,h1,fun π1 v1 H1 e1 R1 i1=>?_⟩
  cases i1
  exact ⟨_,rfl,k π1 _ H1 e1 R1 (.int _)⟩
 | _=>cases h2)
theorem pm_ty {x:Str}{n:String}(hg:Gl X x)(hm:X.mg x=none)(hv:bootBuiltins x=some (.type n))(hn:x ≠ "__name__":=by decide) (hd:(x == ("__debug__":Str))=false:=by decide):PE X (.Name x pos) (tM X.K (mC (.ty n))):=
 pm_const (pe_bltn (v:=.ty n) hg hm hv rfl hn hd) fun _ _ _=>.ty n
end
noncomputable def tyD (μ:Hm):D->Option String
 | .non=>some "NoneType"
 | .bl _=>some "bool"
 | .int _=>some "int"
 | .str _=>some "str"
 | .tup _=>some "tuple"
 | .rol _=>some "list"
 | .loc a=>match μ[a]? with
  | some (.lst _)=>some "list"
  | some (.dK _)=>some "dict"
  | _=>none
 | .ty _=>none
noncomputable def instT (t c:String):Option Bool:=match c with
 | "int"=>some (t == "int" || t == "bool")
 | "bool"=>some (t == "bool")
 | "str"=>some (t == "str")
 | "list"=>some (t == "list")
 | "tuple"=>some (t == "tuple")
 | "dict"=>some (t == "dict")
 | _=>none
noncomputable def isInst:MF:=fun ds μ=>match ds with
 | [x,.ty c]=>(tyD μ x).bind fun t=>(instT t c).map fun b=>(.bl b,μ)
 | _=>none
theorem kit_inst (K:PySem.W.Frag){t c:String}{b:Bool}(ht:t = "NoneType"\/t = "bool"\/t = "int"\/t = "str"\/t = "tuple"\/t = "list"\/t = "dict") (h:instT t c=some b):PySem.W.kitOne K (.type t) (.type c)=some b:=by
 unfold instT at h
 split at h<;>first
  | cases h;done
  | (have h':=Option.some.inj h;subst h'
     rcases ht with rfl|rfl|rfl|rfl|rfl|rfl|rfl<;>first|rfl|decide +kernel|(unfold PySem.W.kitOne;simp;rfl))
end L3
namespace L3
open PySem L2
noncomputable abbrev MG:=D->Rho->Hm->Option Rho
noncomputable def tMG (K:PySem.W.Frag)(g:MG):TG:=fun v σ H Q=>∃ π ρ μ d ρ',Rp K π H μ/\En K π μ.length H σ ρ/\IsD K π μ.length H v d/\g d ρ μ=some ρ'/\∀ σ',En K π μ.length H σ' ρ'->Q σ' H
noncomputable def gSet (i:Nat):MG:=fun d ρ _=>some (ρ.set i (some d))
section
variable {X:Cx}{pos:Pos}
theorem pmg_name {i:Nat}{x:Str}(hN:X.N.Nodup)(hi:X.N[i]? = some x)(hx:Loc X.env.scope x)(hf:X.fn x=true\/X.env.scope.names.lookup x=some .local:=by first|exact .inl rfl|exact .inr rfl|assumption):PG X (.Name x pos) (tMG X.K (gSet i)):=by
 intro pins s σ H v u Q I r h
 obtain ⟨π,ρ,μ,d,ρ',R,E,hd,hm,k⟩:=h
 cases hm
 exact pg_name hN hi hx hf pins s σ H v u Q I r (k _ (E.set hd i))
noncomputable def iSeq (K:PySem.W.Frag)(tl:TE):TI:=fun σ H R=>tl σ H fun x H1=>∃ a,x=.ref a/\(((∃ xs,SqL K H1 a xs)/\R (Itl K a) H1)\/((∃ xs,SqT K H1 a xs)/\R (Itt K a) H1))
theorem pi_seq {l tg:Expr}{tl:TE}(hl:PE X l tl):PI X tg l (iSeq X.K tl):=by
 intro pins s σ H R I h
 refine thn (hl pins s σ H _ I h) fun v s1 ⟨x,H1,I1,r1,q1⟩=>?_
 obtain ⟨a,e,q⟩:=q1
 subst e
 cases r1
 rcases q with ⟨⟨xs,hq⟩,q⟩|⟨⟨xs,hq⟩,q⟩
 ·obtain ⟨its,rv,p,hz⟩:=I1.list hq
  refine wpAny_pyIter_list p.isList ?_
  refine ⟨s1.heap.objs.size,[s1.heap.objs.size],_,_,H1,rfl,I1.kept (t':=s1.toks) fun b o e=>Heap.get?_push_of_some _ e,turn_list a _,⟨_,Heap.get?_push_size _ rfl,rfl,rfl⟩,fun b hb=>?_,q⟩
  have e:b=s1.heap.objs.size:=by simpa using hb
  subst e
  exact I1.fpOk (Nat.le_refl _) (I1.hok.fresh (Nat.le_refl _))
 ·obtain ⟨its,rv,p,hz⟩:=I1.tuple hq
  refine wpAny_pyIter_tuple (show s1.heap.IsTuple a its.toArray from p) ?_
  refine ⟨s1.heap.objs.size,[s1.heap.objs.size],_,_,H1,rfl,I1.kept (t':=s1.toks) fun b o e=>Heap.get?_push_of_some _ e,turn_tuple a _,⟨_,Heap.get?_push_size _ rfl,rfl,rfl⟩,fun b hb=>?_,q⟩
  have e:b=s1.heap.objs.size:=by simpa using hb
  subst e
  exact I1.fpOk (Nat.le_refl _) (I1.hok.fresh (Nat.le_refl _))
end
structure Wk (K:PySem.W.Frag)(J:It)(src:Hm->Nat->Option (Option D))(π:Nat->Addr)(n:Nat)(H:Hp):Prop where
 stop:∀ π' μ H' i,Ext π n H π' μ.length H'->Rp K π' H' μ->src μ i=some none->J.stop i H'
 go:∀ π' μ H' i d,Ext π n H π' μ.length H'->Rp K π' H' μ->src μ i=some (some d)->J.go i H'/\∀ x H2,J.yld i H' x H2->Ext π' μ.length H' π' μ.length H2/\Rp K π' H2 μ/\IsD K π' μ.length H2 x d
noncomputable def srcSeq (x:D):Hm->Nat->Option (Option D):=fun μ i=>(seqD μ x).map fun xs=>xs[i]?
theorem wk_seq {K:PySem.W.Frag}{π:Nat->Addr}{μ:Hm}{H:Hp}{v:V}{x:D}{xs:List D}(R:Rp K π H μ)(h:IsD K π μ.length H v x)(hs:seqD μ x=some xs) :
  ∃ a,v=.ref a/\(((∃ vs,SqL K H a vs)/\Wk K (Itl K a) (srcSeq x) π μ.length H)\/((∃ vs,SqT K H a vs)/\Wk K (Itt K a) (srcSeq x) π μ.length H)):=by
 cases h with
 | @tup p vs ds q t=>
  refine ⟨p,rfl,.inr ⟨⟨vs,q⟩,⟨fun π' μ' H' i e R' z=>?_,fun π' μ' H' i d e R' z=>?_⟩⟩⟩
  ·simp only [srcSeq,seqD,Option.map_some] at z
   have z':ds[i]? = none:=Option.some.inj z
   exact ⟨vs,e.sqT q,by rw [t.length];exact List.getElem?_eq_none_iff.mp z'⟩
  ·simp only [srcSeq,seqD,Option.map_some] at z
   have z':ds[i]? = some d:=Option.some.inj z
   obtain ⟨w,h1,h2⟩:=t.get z'
   refine ⟨⟨vs,w,e.sqT q,h1⟩,fun y H2 ⟨e1,e2⟩=>?_⟩
   subst e1
   have:=e2 vs (e.sqT q)
   rw [h1] at this
   cases this
   exact ⟨.refl,R',h2.mono e⟩
 | @rol p vs ds q t=>
  refine ⟨p,rfl,.inl ⟨⟨vs,q.sq⟩,⟨fun π' μ' H' i e R' z=>?_,fun π' μ' H' i d e R' z=>?_⟩⟩⟩
  ·simp only [srcSeq,seqD,Option.map_some] at z
   have z':ds[i]? = none:=Option.some.inj z
   exact ⟨vs,(e.roL q).sq,by rw [t.length];exact List.getElem?_eq_none_iff.mp z'⟩
  ·simp only [srcSeq,seqD,Option.map_some] at z
   have z':ds[i]? = some d:=Option.some.inj z
   obtain ⟨w,h1,h2⟩:=t.get z'
   refine ⟨⟨vs,w,(e.roL q).sq,h1⟩,fun y H2 ⟨e1,e2⟩=>?_⟩
   subst e1
   have:=e2 vs (e.roL q).sq
   rw [h1] at this
   cases this
   exact ⟨.refl,R',h2.mono e⟩
 | @loc a ha=>
  have hc:∃ vs,H (π a)=some (.lst vs):=by
   simp only [seqD] at hs
   split at hs
   ·rename_i ys hy
    obtain ⟨vs,h1,_⟩:=R.lst a ys hy
    exact ⟨vs,h1⟩
   ·cases hs
  obtain ⟨vs0,hv0⟩:=hc
  refine ⟨π a,rfl,.inl ⟨⟨vs0,.of hv0⟩,⟨fun π' μ' H' i e R' z=>?_,fun π' μ' H' i d e R' z=>?_⟩⟩⟩
  ·simp only [srcSeq,seqD] at z
   split at z
   ·rename_i ys hy
    obtain ⟨vs,h1,h2⟩:=R'.lst a ys hy
    rw [e.pi a ha] at h1
    have z':ys[i]? = none:=Option.some.inj z
    exact ⟨vs,.of h1,by rw [h2.length];exact List.getElem?_eq_none_iff.mp z'⟩
   ·cases z
  ·simp only [srcSeq,seqD] at z
   split at z
   ·rename_i ys hy
    obtain ⟨vs,h1,h2⟩:=R'.lst a ys hy
    rw [e.pi a ha] at h1
    have z':ys[i]? = some d:=Option.some.inj z
    obtain ⟨w,h3,h4⟩:=h2.get z'
    refine ⟨⟨vs,w,.of h1,h3⟩,fun y H2 ⟨e1,e2⟩=>?_⟩
    subst e1
    have:=e2 vs (.of h1)
    rw [h3] at this
    cases this
    exact ⟨.refl,R',h4⟩
   ·cases z
 | _=>cases hs
noncomputable def goFor (src:Hm->Nat->Option (Option D))(g:MG)(b:MS):Nat->Nat->MS
 | 0,_,_,_=>none
 | n+1,i,ρ,μ=>(src μ i).bind fun o=>match o with
  | none=>some (.nx,ρ,μ)
  | some d=>(g d ρ μ).bind fun ρ1=>(b ρ1 μ).bind fun p=>match p.1 with
   | .nx=>goFor src g b n (i+1) p.2.1 p.2.2
   | .ct=>goFor src g b n (i+1) p.2.1 p.2.2
   | .bk=>some (.nx,p.2.1,p.2.2)
   | .rt d=>some (.rt d,p.2.1,p.2.2)
theorem go_read {K:PySem.W.Frag}{J:It}{src:Hm->Nat->Option (Option D)}{g:MG}{b:MS}{π:Nat->Addr}{n0:Nat}{H0:Hp}(W:Wk K J src π n0 H0){E:Ends}{fl:Fl}{ρ':Rho}{μ':Hm}(hE:FlOk K E π n0 H0 fl ρ' μ')
  {π1:Nat->Addr}{μ1:Hm}{H1:Hp}{ρ1:Rho}{σ1:St}{n:Nat}(e1:Ext π n0 H0 π1 μ1.length H1)(R1:Rp K π1 H1 μ1)(E1:En K π1 μ1.length H1 σ1 ρ1)(h:goFor src g b n 0 ρ1 μ1=some (fl,ρ',μ')) :
  ∃ Wd:Nat->Nat->St->Hp->Prop,(∃ m,Wd 0 m σ1 H1)/\∀ i m σ H,Wd i m σ H->
   (J.stop i H/\E.nx σ H)\/(J.go i H/\∃ N:St->Hp->Prop,(∀ σ' H',N σ' H'->∃ m',m'<m/\Wd (i+1) m' σ' H')/\∀ x H',J.yld i H x H'->tMG K g x σ H' fun σ2 H2=>tMS K b { E with nx:=N,ct:=N,bk:=E.nx } σ2 H2):=by
 have lift:∀ {π2:Nat->Addr}{n2:Nat}{H2:Hp}(e:Ext π n0 H0 π2 n2 H2){fl:Fl}{ρ':Rho}{μ':Hm},FlOk K E π n0 H0 fl ρ' μ'->FlOk K E π2 n2 H2 fl ρ' μ':=fun {π2 n2 H2} e {fl ρ' μ'} k=>by
  cases fl with
  | nx=>exact fun π3 σ3 H3 e3 R3 E3=>k π3 σ3 H3 (e.trans e3) R3 E3
  | bk=>exact fun π3 σ3 H3 e3 R3 E3=>k π3 σ3 H3 (e.trans e3) R3 E3
  | ct=>exact fun π3 σ3 H3 e3 R3 E3=>k π3 σ3 H3 (e.trans e3) R3 E3
  | rt d=>exact KC.after k e
 refine ⟨fun i m σ H=>∃ π2 μ2 ρ2,Ext π n0 H0 π2 μ2.length H/\Rp K π2 H μ2/\En K π2 μ2.length H σ ρ2/\goFor src g b m i ρ2 μ2=some (fl,ρ',μ'),⟨n,π1,μ1,ρ1,e1,R1,E1,h⟩,?_⟩
 rintro i m σ H ⟨π2,μ2,ρ2,e2,R2,E2,h2⟩
 cases m with
 | zero=>cases h2
 | succ m=>
  obtain ⟨o,h3,h4⟩:=Option.bind_eq_some_iff.mp h2
  cases o with
  | none=>
   cases h4
   exact .inl ⟨W.stop π2 _ H i e2 R2 h3,hE π2 σ H e2 R2 E2⟩
  | some d=>
   obtain ⟨g1,g2⟩:=W.go π2 μ2 H i d e2 R2 h3
   obtain ⟨ρ3,h5,h6⟩:=Option.bind_eq_some_iff.mp h4
   obtain ⟨⟨f4,ρ4,μ4⟩,h7,h8⟩:=Option.bind_eq_some_iff.mp h6
   refine .inr ⟨g1,fun σ' H'=>∃ π5 ρ5 μ5,Ext π n0 H0 π5 μ5.length H'/\Rp K π5 H' μ5/\En K π5 μ5.length H' σ' ρ5/\goFor src g b m (i+1) ρ5 μ5=some (fl,ρ',μ'),
    fun σ' H' ⟨π5,ρ5,μ5,a1,a2,a3,a4⟩=>⟨m,Nat.lt_succ_self _,π5,μ5,ρ5,a1,a2,a3,a4⟩,fun x H' y=>?_⟩
   obtain ⟨ex,Rx,hx⟩:=g2 x H' y
   have e2:=e2.trans ex
   refine ⟨π2,ρ2,μ2,d,ρ3,Rx,E2.mono ex,hx,h5,fun σ3 E3=>⟨π2,ρ3,μ2,f4,ρ4,μ4,Rx,E3,h7,?_⟩⟩
   cases f4 with
   | nx=>exact fun π5 σ5 H5 e5 R5 E5=>⟨π5,ρ4,μ4,e2.trans e5,R5,E5,h8⟩
   | ct=>exact fun π5 σ5 H5 e5 R5 E5=>⟨π5,ρ4,μ4,e2.trans e5,R5,E5,h8⟩
   | bk=>
    cases h8
    exact fun π5 σ5 H5 e5 R5 E5=>hE π5 σ5 H5 (e2.trans e5) R5 E5
   | rt d'=>
    cases h8
    exact KC.after hE e2
section
variable {X:Cx}{pos:Pos}{tg iter:Expr}{body:List Stmt}{mi:ME}{g:MG}{mb:MS}
noncomputable def srcRng (lo:Int)(n:Nat):Hm->Nat->Option (Option D):=fun _ i=>some (if i<n then some (.int (lo+i)) else none)
theorem wk_rng {K:PySem.W.Frag}{lo:Int}{k:Nat}{π:Nat->Addr}{n:Nat}{H:Hp}:Wk K (Itr lo k) (srcRng lo k) π n H:=by
 refine ⟨fun π' μ H' i e R z=>?_,fun π' μ H' i d e R z=>?_⟩
 ·have z':=Option.some.inj z
  split at z'
  ·cases z'
  ·exact Nat.not_lt.mp (by assumption)
 ·have z':=Option.some.inj z
  split at z'
  ·cases z'
   rename_i h
   exact ⟨h,fun x H2 ⟨e1,e2⟩=>by subst e1;rw [e2];exact ⟨.refl,R,.int _⟩⟩
  ·cases z'
end
end L3
namespace L3
open PySem L2
noncomputable def hidName (y:Str):Str:="#"++y
noncomputable def hid (xs N:List Str):List Str:=N.map fun y=>if xs.contains y then hidName y else y
theorem hid_len (xs N:List Str):(hid xs N).length=N.length:=by unfold hid;simp
theorem hid_get {xs N:List Str}{i:Nat}{y:Str}(h:(hid xs N)[i]? = some y):∃ y0,N[i]? = some y0/\((xs.contains y0=true/\y=hidName y0)\/(xs.contains y0=false/\y=y0)):=by
 unfold hid at h
 rw [List.getElem?_map] at h
 obtain ⟨y0,h1,h2⟩:=Option.map_eq_some_iff.mp h
 refine ⟨y0,h1,?_⟩
 cases hc:xs.contains y0 with
 | true=>rw [hc] at h2;exact .inl ⟨rfl,by simpa using h2.symm⟩
 | false=>rw [hc] at h2;exact .inr ⟨rfl,by simpa using h2.symm⟩
noncomputable def compCx (X:Cx)(scope:Scope)(cl:List (Str×Addr))(C:Addr)(N:List Str)(s₀:Shared)(H₀:Hp)(fp:List Addr):Cx:=
 { X with N:=N,s₀:=s₀,H₀:=H₀,env:=compEnvC scope cl C X.env,outer:=X.stack,stack:=X.stack,ex:=fp,fn:=fun _=>false,pn:=[],xe:=fun _ _=>False }
theorem lookup_relabel {env:Env}:∀ (names:List (Str×NameKind))(x:Str),(names.map fun (n,k)=>if (k == NameKind.free&&env.scope.kind == .function&&env.kindOf n == some .cell) then (n,NameKind.cell) else (n,k)).lookup x
  = (names.lookup x).map fun k=>if (k == NameKind.free&&env.scope.kind == .function&&env.kindOf x == some .cell) then NameKind.cell else k
 | [],_=>rfl
 | (n,k)::r,x=>by
  have ih:=lookup_relabel (env:=env) r x
  rw [List.map_cons]
  by_cases hx:x=n
  ·subst hx
   have key:∀ (k':NameKind)(l:List (Str×NameKind)),List.lookup x ((x,k')::l)=some k':=fun k' l=>by simp [List.lookup_cons]
   rw [key]
   show List.lookup x ((if (k == NameKind.free&&env.scope.kind == .function&&env.kindOf x == some .cell)=true then (x,NameKind.cell) else (x,k))::_)=some (if (k == NameKind.free&&env.scope.kind == .function&&env.kindOf x == some .cell)=true then NameKind.cell else k)
   split
   ·rw [key]
   ·rw [key]
  ·have hx':(x == n)=false:=by simpa using hx
   have key:∀ (k':NameKind)(l:List (Str×NameKind)),List.lookup x ((n,k')::l)=List.lookup x l:=fun k' l=>by simp only [List.lookup_cons,hx']
   rw [key]
   show List.lookup x ((if (k == NameKind.free&&env.scope.kind == .function&&env.kindOf n == some .cell)=true then (n,NameKind.cell) else (n,k))::_)=_
   split
   ·rw [key]
    exact ih
   ·rw [key]
    exact ih
structure CompOk (X:Cx)(scope:Scope)(cl:List (Str×Addr))(xs:List Str):Prop where
 clos:closureFor scope X.env=pure cl
 nocell:∀ y∈scope.names,y.2≠.cell
 kind:scope.kind=.function
 names:∀ y∈scope.names,y.2=.local->scope.names.lookup y.1=some .local
 here:∀ x∈xs,scope.names.lookup x=some .local
 sub:∀ y c,cl.lookup y=some c->X.env.cells.lookup y=some c
 free:∀ y,scope.names.lookup y=some .free->(X.env.kindOf y=some .cell\/X.env.kindOf y=some .free)/\∃ c,cl.lookup y=some c
 own:∀ y,scope.names.lookup y=some .local->y∉hid xs X.N
 hidn:∀ y∈X.N,xs.contains y=true->scope.names.lookup (hidName y)=none
section
variable {X:Cx}{scope:Scope}{cl:List (Str×Addr)}{xs:List Str}
theorem CompOk.kindOf (O:CompOk X scope cl xs)(C:Addr)(y:Str):(compEnvC scope cl C X.env).kindOf y=(scope.names.lookup y).map fun k=>if (k == NameKind.free&&X.env.scope.kind == .function&&X.env.kindOf y == some .cell) then NameKind.cell else k:=
 lookup_relabel scope.names y
theorem CompOk.outer (O:CompOk X scope cl xs){C:Addr}{y:Str}(h:(compEnvC scope cl C X.env).kindOf y=some .cell\/(compEnvC scope cl C X.env).kindOf y=some .free):scope.names.lookup y=some .free:=by
 rw [O.kindOf] at h
 cases q:scope.names.lookup y with
 | none=>rw [q] at h;rcases h with h|h<;>cases h
 | some k=>
  rw [q] at h
  cases k with
  | free=>rfl
  | cell=>exact absurd rfl (O.nocell _ (PySem.mem_of_lookup q))
  | «local»=>rcases h with h|h<;>simp at h
  | globalExplicit=>rcases h with h|h<;>simp at h
  | globalImplicit=>rcases h with h|h<;>simp at h
theorem CompOk.inv {pins:List (Addr×Obj)}{σ:St}{H:Hp}{s:Shared}{fp:List Addr}{h₁:Heap}{tk:Nat}(O:CompOk X scope cl xs)(I:Inv X pins σ H s)(hfp:∀ b∈fp,FpOk X pins H b)(hob:∀ b∈fp,∃ o,s.heap.get? b=some o){m:Str->Option Value}
  (hns:h₁.Ns s.heap.objs.size m)(hk:∀ b o,s.heap.get? b=some o->h₁.get? b=some o) :
  Inv (compCx X scope cl s.heap.objs.size (hid xs X.N++xs) s H fp) [] (σ++List.replicate xs.length none) H { s with heap:=h₁,toks:=tk }:=by
 refine ⟨⟨I.ok.mod,O.kind,I.ok.glob,I.ok.blt,Nat.le_refl _,fun y z c h1 h2=>?_,fun y hy=>?_,(fun y c h=>by cases h),I.ok.hd,I.ok.frames,.inl rfl,fun b hb=>?_,fun b o e=>I.bs b o e,Nat.le_trans I.ok.bsz I.sz,fun b o e hb=>?_,fun b hb hb2=>?_,I.stack,I.stkFree⟩,
  rfl,I.bare,Un.kept hk,⟨m,hns,fun i y v h1 h2 h3=>?_⟩,fun y c h=>?_,I.hok.fresh (Nat.le_refl _),fun y c h=>I.freeC y c (O.sub y c h),fun p hp=>absurd (show p∈([]:List (Addr×Obj)) from hp) (by simp),I.hok.kept hk,?_⟩
 ·exact I.ok.inj y z c (O.sub y c h1) (O.sub z c h2)
 ·exact (O.free y (O.outer hy)).2
 ·obtain ⟨f0,f1,f2,f3,f4,f5⟩:=hfp b hb
  obtain ⟨o,ho⟩:=hob b hb
  exact ⟨Nat.ne_of_lt (Heap.lt_size ho),fun y c h=>f4 y c (O.sub y c h)⟩
 ·obtain ⟨f0,f1,f2,f3,f4,f5⟩:=hfp b hb
  rcases f3 with f3|f3
  ·exact I.ok.noex b o e f3
  ·exact absurd (Nat.lt_of_lt_of_le (Heap.lt_size (I.ok.bs b o e).1) f3) (Nat.lt_irrefl _)
 ·obtain ⟨f0,f1,f2,f3,f4,f5⟩:=hfp b hb
  rcases List.mem_cons.mp (I.stkSub b hb2) with z|z
  ·exact f1 z
  ·exact f2 z
 ·have hi:i<σ.length:=by
   by_cases hi:i<σ.length
   ·exact hi
   ·rw [List.getElem?_append_right (Nat.not_lt.mp hi),List.getElem?_replicate] at h2
    split at h2<;>cases h2
  rw [List.getElem?_append_left hi] at h2
  have h0':(hid xs X.N)[i]? = some y:=by
   have h1'':(hid xs X.N++xs)[i]? = some y:=h1
   rw [List.getElem?_append_left (by rw [hid_len,<- I.len];exact hi)] at h1''
   exact h1''
  have notown:scope.names.lookup y≠some .local:=fun z=>O.own y z (List.mem_of_getElem? h0')
  have hk':=O.kindOf s.heap.objs.size y
  have h1':X.N[i]? = some y:=by
   obtain ⟨y0,q1,q2⟩:=hid_get h0'
   rcases q2 with ⟨q2,q3⟩|⟨q2,q3⟩
   ·exfalso
    have hz:=O.hidn y0 (List.mem_of_getElem? q1) q2
    rw [<- q3] at hz
    rw [hz] at hk'
    have h3':(compEnvC scope cl s.heap.objs.size X.env).kindOf y=some .local\/(compEnvC scope cl s.heap.objs.size X.env).kindOf y=some .cell\/(compEnvC scope cl s.heap.objs.size X.env).kindOf y=some .free:=h3
    rw [hk'] at h3'
    rcases h3' with h3'|h3'|h3'<;>cases h3'
   ·rw [q3];exact q1
  have h3':(compEnvC scope cl s.heap.objs.size X.env).kindOf y=some .cell\/(compEnvC scope cl s.heap.objs.size X.env).kindOf y=some .free:=by
   rcases h3 with h3|h3|h3
   ·exfalso
    have h3':(compEnvC scope cl s.heap.objs.size X.env).kindOf y=some .local:=h3
    rw [hk'] at h3'
    cases q:scope.names.lookup y with
    | none=>rw [q] at h3';cases h3'
    | some k=>
     rw [q] at h3'
     cases k with
     | «local»=>exact notown q
     | cell=>simp at h3'
     | free=>
      simp only [Option.map_some] at h3'
      split at h3'<;>cases h3'
     | globalExplicit=>simp at h3'
     | globalImplicit=>simp at h3'
   ·exact .inl h3
   ·exact .inr h3
  obtain ⟨hf,c,hc⟩:=O.free y (O.outer h3')
  obtain ⟨m0,hn0,hl0⟩:=I.loc
  obtain ⟨u,r,l⟩:=hl0 i y v h1' h2 (by rcases hf with hf|hf;exact .inr (.inl hf);exact .inr (.inr hf))
  refine ⟨u,r,.inr ⟨h3',c,hc,?_⟩⟩
  rcases l with ⟨lk,_⟩|⟨_,c',e',z⟩
  ·exfalso
   rcases hf with hf|hf
   ·rw [hf] at lk;cases lk
   ·rw [hf] at lk;cases lk
  ·rw [O.sub y c hc] at e'
   cases e'
   obtain ⟨o,ho,hd⟩:=z
   exact ⟨o,hk c o ho,hd⟩
 ·obtain ⟨v,q⟩:=I.cell y c (O.sub y c h)
  exact ⟨v,by obtain ⟨o,ho,hd⟩:=q;exact ⟨o,hk c o ho,hd⟩⟩
 ·show (σ++List.replicate xs.length none).length=(hid xs X.N++xs).length
  rw [List.length_append,List.length_append,I.len,List.length_replicate,hid_len]
theorem CompOk.back {pins pl:List (Addr×Obj)}{σ σ':St}{H H':Hp}{s s1:Shared}{fp:List Addr}{h':Heap}{N:List Str}(I:Inv X pins σ H s)(hfp:∀ b∈fp,FpOk X pins H b)
  (J:Inv (compCx X scope cl s.heap.objs.size N s H fp) pl σ' H' s1)(hs:∀ b o,b≠s.heap.objs.size->s1.heap.get? b=some o->h'.get? b=some o):Inv X pins σ H' { s1 with heap:=h' }:=by
 have u:Un (frs X.stack) fp H H' s.heap h':=by
  have u0:Un (frs X.stack) fp H H' s.heap s1.heap:=J.base
  have ne:∀ b o,s.heap.get? b=some o->b≠s.heap.objs.size:=fun b o e=>Nat.ne_of_lt (Heap.lt_size e)
  refine ⟨fun b o e n hb hx=>hs b o (ne b o e) (u0.keep b o e n hb hx),fun b o e n hb hx=>?_,u0.free,fun b o e hx=>?_,u0.tups,u0.frzs,u0.tbls⟩
  ·obtain ⟨sl,q⟩:=u0.slot b o e n hb hx
   exact ⟨sl,hs b _ (ne b o e) q⟩
  ·obtain ⟨o',q⟩:=u0.there b o e hx
   exact ⟨o',hs b _ (ne b o e) q⟩
 have hfree:H' s.heap.objs.size=none:=J.free
 have hok:HOk X.prog X.w H' h':=fun b v e=>by
  refine (J.hok b v e).stay (fun c w hc q=>hs c w ?_ q) (fun _ q=>q) fun _ _ q=>q
  rcases hc with z|z
  ·rw [z]
   intro z2
   rw [z2,hfree] at e
   cases e
  ·intro z2
   rw [z2,hfree] at z
   cases z
 have hos:s1.os=s.os:=J.os
 obtain ⟨hh,g,d,t,os'⟩:=s1
 obtain rfl:os'=s.os:=hos
 have r:=Inv.call (X:=X) (pins:=pins) (σ:=σ) (H:=H) (s:=s) (h':=h') (g':=g) (d':=d) (t':=t) (ch:=fp) I u hok J.bare fun b hb=>let ⟨f0,f1,f2,f3,f4,f5⟩:=hfp b hb;⟨f3,f1,f4,f5⟩
 exact r
end
theorem compLoop_own {prog:Program}{w:World}{A:Around}{R:Result->Shared->Prop}{s:Shared}{elt target iter:Expr}{ifs:List Expr}{scope:Scope}{pos:Pos}{it acc:Value}{env:Env}(I:Nat->Shared->Prop)
  (turn:∀ n s,I n s->wpAny (model prog w) A (pyNext it) (fun r s₁=>match r with
   | none=>R (.ok .next) s₁
   | some v=>wpAny (model prog w) A (letOwnedTupleGo target it v) (fun _ s₁'=>wpAny (model prog w) A (assign target env v) (fun _ s₂=>
     wpAny (model prog w) A (forIn ifs true fun c r=>if r=true then do let ok <- isTrue c env (eval c env);pure (ForInStep.yield ok) else pure (ForInStep.yield r)) (fun ok s₃=>
      if ok=true then wpAny (model prog w) A (eval elt env) (fun x s₄=>
       wpAny (model prog w) A (call (.builtin "list.append") [acc,x]) (fun _ s₅=>∃ m,m<n/\I m s₅) (fun _ _=>False) s₄) (fun _ _=>False) s₃
      else ∃ m,m<n/\I m s₃) (fun _ _=>False) s₂) (fun _ _=>False) s₁') (fun _ _=>False) s₁) (fun _ _=>False) s)
  (n:Nat)(h:I n s) :
  codeAny (model prog w) A (.compLoop (.ListComp elt [⟨target,iter,ifs,0⟩] scope pos) 0 it acc env) R s:=by
 refine codeAny_loop rfl I (fun n s hI=>?_) n h
 show wpAny _ A ((compTurn (.ListComp elt [⟨target,iter,ifs,0⟩] scope pos) 0 it acc env).onRaise (fun x=>do noteFrame x env;theTreesLotGoes x)) _ _ s
 refine wpAny_noted ?_
 rw [compTurn_list]
 refine wpAny_bind (wpAny_standAt (wpAny_bind (wpAny_mono (turn n s hI) (fun r s₁ h₁=>?_) fun _ _ h'=>h'.elim)))
 cases r with
 | none=>exact wpAny_pure h₁
 | some v=>
  refine wpAny_bind (wpAny_mono h₁ (fun _ s₁' h₁'=>?_) fun _ _ h'=>h'.elim)
  refine wpAny_bind (wpAny_mono h₁' (fun _ s₂ h₂=>wpAny_bind (wpAny_mono h₂ (fun ok s₃ h₃=>?_) fun _ _ h'=>h'.elim)) fun _ _ h'=>h'.elim)
  cases ok with
  | false=>exact wpAny_pure ⟨rfl,h₃⟩
  | true=>
   exact wpAny_bind (wpAny_bind (wpAny_mono h₃ (fun x s₄ h₄=>wpAny_bind (wpAny_mono h₄ (fun _ s₅ h₅=>wpAny_pure (wpAny_pure ⟨rfl,h₅⟩)) fun _ _ h'=>h'.elim)) fun _ _ h'=>h'.elim))
noncomputable def appD (μ:Hm)(a:Nat)(y:D):Option Hm:=match μ[a]? with
 | some (.lst xs)=>if xs.length<sizeLine then some (μ.set a (.lst (xs++[y]))) else none
 | _=>none
noncomputable abbrev BD:=D->Hm->Option Rho
noncomputable def bdOne:BD:=fun d _=>some [some d]
noncomputable def bdTup (k:Nat):BD:=fun d μ=>(seqD μ d).bind fun xs=>if xs.length=k then some (xs.map some) else none
noncomputable def goCompG (src:Hm->Nat->Option (Option D))(bd:BD)(c:MT)(e:ME)(ρ:Rho)(a0:Nat):Nat->Nat->Hm->Option Hm
 | 0,_,_=>none
 | n+1,i,μ=>(src μ i).bind fun o=>match o with
  | none=>some μ
  | some d=>(bd d μ).bind fun x=>(c (ρ++x) μ).bind fun p=>match p.1 with
   | true=>(e (ρ++x) p.2).bind fun q=>(appD q.2 a0 q.1).bind fun μ3=>goCompG src bd c e ρ a0 n (i+1) μ3
   | false=>goCompG src bd c e ρ a0 n (i+1) p.2
noncomputable def mTrue:MT:=fun _ μ=>some (true,μ)
noncomputable def PIfs (X:Cx)(ifs:List Expr)(m:MT):Prop:=
 ∀ (pins:List (Addr×Obj))(s:Shared)(σ:St)(H:Hp)(Q:Bool->Hp->Prop),Inv X pins σ H s->tMT X.K m σ H Q->
  wpAny (model X.prog X.w) X.A (forIn ifs true fun c r=>if r=true then do let ok <- isTrue c X.env (eval c X.env);pure (ForInStep.yield ok) else pure (ForInStep.yield r)) (TP X pins σ Q) X.xe s
theorem pifs_nil {X:Cx}:PIfs X [] mTrue:=by
 intro pins s σ H Q I h
 obtain ⟨π,ρ,μ,b,μ',R,E,hm,k⟩:=h
 cases hm
 exact wpAny_tests_nil ⟨H,I,k π H .refl R⟩
theorem pifs_one {X:Cx}{c:Expr}{m:MT}(h:PT X c (tMT X.K m)):PIfs X [c] m:=fun pins s σ H Q I q=>wpAny_tests_one (h pins s σ H Q I q)
end L3
namespace L3
open PySem L2
section
variable {prog:Program}{w:World}{A:Around}{E:Value->Shared->Prop}{s:Shared}
theorem draw_list {it t:Addr}{items:Array Value}(hne:t≠it):∀ (n i:Nat)(s:Shared)(Q:List Value->Shared->Prop),s.heap.IsListIter it t i->s.heap.IsList t items->i+n<=items.size->
  (∀ h',h'.IsListIter it t (i+n)->Heap.SameBut it s.heap h'->Q ((items.toList.drop i).take n) { s with heap:=h' })->wpAny (model prog w) A (draw (.ref it) n) Q E s
 | 0,i,s,Q,hit,_,_,hQ=>by
  show wpAny _ _ (pure []) Q E s
  exact wpAny_pure (by simpa using hQ s.heap hit (Heap.SameBut.refl ..))
 | n+1,i,s,Q,hit,ht,hle,hQ=>by
  have hlt:i<items.size:=by omega
  show wpAny _ _ (pyNext (.ref it) >>= _) Q E s
  refine wpAny_bind (wpAny_pyNext_list_item hit ht (x:=items[i]) (by simp [hlt]) fun h₁ hit₁ hs₁=>?_)
  refine wpAny_bind (wpAny_holding (draw_list hne n (i+1) _ _ hit₁ (ht.extBut hs₁.extBut hne) (by omega) fun h₂ hit₂ hs₂=>wpAny_pure ?_))
  have hd:items.toList.drop i=items[i]::items.toList.drop (i+1):=by simp [List.drop_eq_getElem_cons,hlt]
  have:=hQ h₂ (by rw [show i+(n+1)=i+1+n by omega];exact hit₂) (hs₁.trans hs₂)
  rw [hd,List.take_succ_cons] at this
  exact this
theorem unpackItems_list {t:Addr}{items:Array Value}{Q:List Value->Shared->Prop}(hh:A.handled=none)(ht:s.heap.IsList t items)
  (hQ:∀ h',Heap.ExtBut s.heap.objs.size s.heap h'->Q items.toList { s with heap:=h' }):wpAny (model prog w) A (unpackItems (.ref t) items.size none) Q E s:=by
 have hlt:t≠s.heap.objs.size:=by obtain ⟨o,ho,_⟩:=ht;exact Nat.ne_of_lt (Heap.lt_size ho)
 unfold unpackItems
 refine wpAny_bind ?_
 ·unfold notIterableAtAll
  refine wpAny_bind (wpAny_specialOf ht.typeIs slot_list_iter.lookup ?_)
  refine wpAny_pure ?_
  simp only [Bool.false_eq_true,if_false]
  refine wpAny_bind (wpAny_holding (wpAny_pyIter_list ht ?_))
  refine wpAny_bind (wpAny_holding (draw_list hlt items.size 0 _ _ ⟨_,Heap.get?_push_size _ rfl,rfl,rfl⟩ (ht.push _) (by omega) fun h₁ hit₁ hs₁=>?_))
  have hall:List.take items.size (List.drop 0 items.toList)=items.toList:=by
   rw [List.drop_zero];exact List.take_of_length_le (by simp)
  rw [hall]
  rw [if_neg (by simp)]
  have ht₁:h₁.IsList t items:=(ht.push _).extBut hs₁.extBut hlt
  refine wpAny_bind (wpAny_holding (wpAny_pyNext_list_end hh hit₁ ht₁ (by simp) fun h₂ he₂=>?_))
  simp only [Option.isSome_none,Bool.false_eq_true,if_false]
  refine wpAny_pure (hQ h₂ fun b o hb e=>he₂ b o hb (hs₁.extBut b o hb (Heap.get?_push_of_some _ e)))
theorem assign_Tuple_list {env:Env}{elts:List Expr} {x1} {pos:Pos}{t:Addr}{items:Array Value}{Q:Unit->Shared->Prop}(hh:A.handled=none)(ht:s.heap.IsList t items)
  (hn:(assignEach elts env).length=items.size)(hstar:(assignEach elts env).findIdx? (·.1)=none)
  (h:∀ h',Heap.ExtBut s.heap.objs.size s.heap h'->wpAny (model prog w) A (assignInOrder ((assignEach elts env).map (·.2)) items.toList) Q E { s with heap:=h' }) :
  wpAny (model prog w) A (assign (.Tuple elts x1 pos) env (.ref t)) Q E s:=by
 rw [PyProof.Rows.assign_Tuple]
 refine wpAny_bind (wpAny_standAt ?_)
 unfold unpack
 rw [hn,hstar]
 exact wpAny_bind (wpAny_holding (unpackItems_list hh ht h))
end
noncomputable def setAll:Rho->List Nat->List D->Rho
 | ρ,i::is,x::xs=>setAll (ρ.set i (some x)) is xs
 | ρ,_,_=>ρ
noncomputable def gTupD (is:List Nat):MG:=fun d ρ μ=>(seqD μ d).bind fun xs=>if xs.length=is.length then some (setAll ρ is xs) else none
noncomputable def gsOf:List Nat->TGs
 | []=>gNil
 | i::r=>gCons (gName i) (gsOf r)
theorem gs_read {K:PySem.W.Frag}{π:Nat->Addr}{n:Nat}{H:Hp}:∀ (is:List Nat){vs:List V}{xs:List D}{σ:St}{ρ:Rho}{Q:St->Hp->Prop},IsDs K π n H vs xs->En K π n H σ ρ->xs.length=is.length->(∀ σ',En K π n H σ' (setAll ρ is xs)->Q σ' H)->gsOf is vs σ H Q
 | [],vs,xs,σ,ρ,Q,h,E,hl,k=>by
  cases h with
  | nil=>exact ⟨rfl,k σ E⟩
  | cons h t=>cases hl
 | i::is,vs,xs,σ,ρ,Q,h,E,hl,k=>by
  cases h with
  | nil=>cases hl
  | cons h t=>exact ⟨_,_,rfl,gs_read is t (E.set h i) (by simpa using hl) k⟩
section
variable {X:Cx}{pos:Pos}
theorem pmg_tup {es:List Expr}{k:Nat}{is:List Nat}(hc:X.calm=true)(h:PGs X es (gsOf is))(hn:(assignEach es X.env).length=is.length:=by rfl)(hst:(assignEach es X.env).findIdx? (·.1)=none:=by rfl) :
  PG X (.Tuple es k pos) (tMG X.K (gTupD is)):=by
 intro pins s σ H v u Q I r hw
 obtain ⟨π,ρ,μ,d,ρ',R,E,hd,hm,kk⟩:=hw
 obtain ⟨xs,h1,h2⟩:=Option.bind_eq_some_iff.mp hm
 split at h2
 ·rename_i hl
  cases h2
  have both:(∃ a vs,v=.ref a/\SqT X.K H a vs/\IsDs X.K π μ.length H vs xs)\/(∃ a vs,v=.ref a/\SqL X.K H a vs/\IsDs X.K π μ.length H vs xs):=by
   cases hd with
   | tup q t=>cases h1;exact .inl ⟨_,_,rfl,q,t⟩
   | rol q t=>cases h1;exact .inr ⟨_,_,rfl,q.sq,t⟩
   | @loc a ha=>
    simp only [seqD] at h1
    split at h1
    ·rename_i ys hy
     cases h1
     obtain ⟨vs,h3,h4⟩:=R.lst a xs hy
     exact .inr ⟨_,vs,rfl,.of h3,h4⟩
    ·cases h1
   | _=>cases h1
  rcases both with ⟨a,vs,rfl,q,t⟩|⟨a,vs,rfl,q,t⟩
  ·cases r
   obtain ⟨its,rv,ht,hz⟩:=I.tuple q
   have hlen:its.length=is.length:=by rw [<- rv.length,t.length];exact hl
   refine PyProof.Rows.assign_Tuple_tuple (I.ok.hd hc) ht (by simp [hn,hlen]) hst fun h' hx=>?_
   have I1:Inv X pins σ H { s with heap:=h' }:=I.kept (t':=s.toks) fun b o e=>hx b o (Nat.ne_of_lt (Heap.lt_size e)) e
   exact h pins _ σ H vs _ Q I1 (by simpa using rv) (gs_read is t E hl kk)
  ·cases r
   obtain ⟨its,rv,ht,hz⟩:=I.list q
   have hlen:its.length=is.length:=by rw [<- rv.length,t.length];exact hl
   refine assign_Tuple_list (I.ok.hd hc) ht.isList (by simp [hn,hlen]) hst fun h' hx=>?_
   have I1:Inv X pins σ H { s with heap:=h' }:=I.kept (t':=s.toks) fun b o e=>hx b o (Nat.ne_of_lt (Heap.lt_size e)) e
   exact h pins _ σ H vs _ Q I1 (by simpa using rv) (gs_read is t E hl kk)
 ·cases h2
noncomputable def mAsg (m:ME)(g:MG):MS:=fun ρ μ=>(m ρ μ).bind fun p=>(g p.1 ρ p.2).map fun ρ'=>(.nx,ρ',p.2)
theorem pms_asg {tg e:Expr}{m:ME}{g:MG}(he:PE X e (tM X.K m))(hg:PG X tg (tMG X.K g))(hs:swapsWithSole [tg] e pos.line X.env=pure false:=by rfl)(hw:swappedStores [tg] e X.env=pure none:=by rfl)
  (h1:(assignEach [tg] X.env).map (·.2)=[assign tg X.env]:=by rfl):PS X (.Assign [tg] e pos) (tMS X.K (mAsg m g)):=pms_weak (ps_asg he hg hs hw h1) (by
 rintro E σ H ⟨π,ρ,μ,fl,ρ',μ',R,EN,hm,k⟩
 obtain ⟨⟨x,μ1⟩,h1,hm⟩:=Option.bind_eq_some_iff.mp hm
 obtain ⟨ρ1,h2,hm⟩:=Option.map_eq_some_iff.mp hm
 cases hm
 exact ⟨π,ρ,μ,x,μ1,R,EN,h1,fun π1 v1 H1 e1 R1 i1=>⟨π1,ρ,_,x,_,R1,EN.mono e1,i1,h2,fun σ' E'=>k π1 σ' H1 e1 R1 E'⟩⟩)
end
section
variable {X:Cx}{K:PySem.W.Frag}
noncomputable def lenM:MF:=fun ds μ=>match ds with
 | [.str z]=>if z.length<=sizeLine then some (.int z.length,μ) else none
 | [x]=>(seqD μ x).map fun xs=>(.int xs.length,μ)
 | _=>none
noncomputable def rLenM (K:PySem.W.Frag):List V->Hp->VK->Prop:=fun xs H Q=>(∃ p ys,xs=[.ref p]/\(SqL K H p ys\/SqT K H p ys)/\Q (.int ys.length) H)\/(∃ z,xs=[.str z]/\z.length<=sizeLine/\Q (.int z.length) H)
theorem call_lenM:CallR X (.builtin "len") (rLenM X.K):=call_len_seq.or call_len_str
theorem seq_of {π:Nat->Addr}{μ:Hm}{H:Hp}{v:V}{x:D}{xs:List D}(R:Rp K π H μ)(h:IsD K π μ.length H v x)(e:seqD μ x=some xs):∃ p vs,v=.ref p/\(SqL K H p vs\/SqT K H p vs)/\IsDs K π μ.length H vs xs:=by
 cases h with
 | tup q t=>cases e;exact ⟨_,_,rfl,.inr q,t⟩
 | rol q t=>cases e;exact ⟨_,_,rfl,.inl q.sq,t⟩
 | @loc a ha=>
  simp only [seqD] at e
  split at e
  ·rename_i ys hy
   cases e
   obtain ⟨vs,h3,h4⟩:=R.lst a xs hy
   exact ⟨_,vs,rfl,.inl (.of h3),h4⟩
  ·cases e
 | _=>cases e
theorem lenM_ok:CallD K lenM (rLenM K):=by
 intro π H μ xs d μ' vs Q R i hm k
 unfold lenM at hm
 split at hm
 ·split at hm
  ·rename_i hl
   cases hm
   cases i with
   | cons i t=>cases i;cases t;exact .inr ⟨_,rfl,hl,k π _ H .refl R (.int _)⟩
  ·cases hm
 ·obtain ⟨ys,h1,h2⟩:=Option.map_eq_some_iff.mp hm
  cases h2
  cases i with
  | cons i t=>
   cases t
   obtain ⟨p,ws,rfl,q,hd⟩:=seq_of R i h1
   refine .inl ⟨p,ws,rfl,q,?_⟩
   rw [hd.length]
   exact k π _ H .refl R (.int _)
 ·cases hm
noncomputable def listM:MF:=fun ds μ=>match ds with
 | [x]=>(seqD μ x).map fun xs=>(.loc μ.length,μ++[.lst xs])
 | _=>none
theorem listM_ok:CallD K listM (fun xs H Q=>∃ p ys,xs=[.ref p]/\(SqL K H p ys\/SqT K H p ys)/\∀ l,H l=none->Q (.ref l) (upd H l (.lst ys))):=by
 intro π H μ xs d μ' vs Q R i hm k
 unfold listM at hm
 split at hm
 ·obtain ⟨ys,h1,h2⟩:=Option.map_eq_some_iff.mp hm
  cases h2
  cases i with
  | cons i t=>
   cases t
   obtain ⟨p,ws,rfl,q,hd⟩:=seq_of R i h1
   refine ⟨p,ws,rfl,q,fun l hl=>?_⟩
   obtain ⟨e2,R2,_⟩:=R.alloc (c:=.lst ys) (o:=.lst ws) hl hd
   exact k _ _ _ e2 R2 alloc_loc
 ·cases hm
noncomputable def rInst (K:PySem.W.Frag):List V->Hp->VK->Prop:=fun vs H Q=>∃ π μ x v t c b,vs=[v,.ty c]/\Rp K π H μ/\IsD K π μ.length H v x/\tyD μ x=some t/\instT t c=some b/\Q (.bl b) H
theorem isInst_ok:CallD K isInst (rInst K):=by
 intro π H μ xs d μ' vs Q R i hm k
 unfold isInst at hm
 split at hm
 ·obtain ⟨t,h1,hm⟩:=Option.bind_eq_some_iff.mp hm
  obtain ⟨b,h2,hm⟩:=Option.map_eq_some_iff.mp hm
  cases hm
  cases i with
  | cons i t1=>
   cases t1 with
   | cons i2 t2=>
    cases t2
    cases i2
    exact ⟨π,_,_,_,t,_,b,rfl,R,i,h1,h2,k π _ H .refl R (.bl _)⟩
 ·cases hm
theorem call_isInst:CallR X (.builtin "isinstance") (rInst X.K):=by
 intro pins s σ H xs us Q I r h
 obtain ⟨π,μ,x,v,t,c,b,rfl,R,i,h1,h2,q⟩:=h
 obtain ⟨u,u2,rfl,r1,r2⟩:=vals2 r
 cases r2
 have fin:∀ tk,EP X pins σ Q (.bool b) { s with toks:=tk }:=fun tk=>⟨.bl b,H,I.tok tk,rfl,q⟩
 cases i with
 | non=>cases h1;cases r1;exact PySem.W.kia_one PySem.W.kitx_none I.kIn True.intro (kit_inst X.K (by simp) h2) (fun z=>nomatch z) fin
 | bl y=>cases h1;cases r1;exact PySem.W.kia_one PySem.W.kitx_bool I.kIn True.intro (kit_inst X.K (by simp) h2) (fun z=>nomatch z) fin
 | int y=>cases h1;obtain ⟨t,rfl⟩:=r1;exact PySem.W.kia_one PySem.W.kitx_int I.kIn True.intro (kit_inst X.K (by simp) h2) (fun z=>nomatch z) fin
 | str y=>cases h1;obtain ⟨t,rfl⟩:=r1;exact PySem.W.kia_one PySem.W.kitx_str I.kIn True.intro (kit_inst X.K (by simp) h2) (fun z=>nomatch z) fin
 | tup g t=>
  cases h1
  cases r1
  obtain ⟨its,r',p,_⟩:=I.tuple g
  obtain ⟨o,e1,e2,_⟩:=p
  exact PySem.W.kia_one PySem.W.kitx_tuple I.kIn ⟨o,e1,e2⟩ (kit_inst X.K (by simp) h2) (fun z=>nomatch z) fin
 | rol g t=>
  cases h1
  cases r1
  obtain ⟨its,r',p,_⟩:=I.list g.sq
  obtain ⟨o,e1,e2,_⟩:=p.isList
  exact PySem.W.kia_one PySem.W.kitx_list I.kIn ⟨o,e1,e2⟩ (kit_inst X.K (by simp) h2) (fun z=>nomatch z) fin
 | @loc a ha=>
  cases r1
  simp only [tyD] at h1
  split at h1
  ·rename_i xs hx
   cases h1
   obtain ⟨vs,h3,h4⟩:=R.lst a xs hx
   obtain ⟨its,r',p,_⟩:=I.list (SqL.of (K:=X.K) h3)
   obtain ⟨o,e1,e2,_⟩:=p.isList
   exact PySem.W.kia_one PySem.W.kitx_list I.kIn ⟨o,e1,e2⟩ (kit_inst X.K (by simp) h2) (fun z=>nomatch z) fin
  ·rename_i kvs hx
   cases h1
   obtain ⟨vs,h3,_⟩:=R.dK a kvs hx
   obtain ⟨_,_,ws,_,p⟩:=(show ObjOk X.prog X.w H s.heap (π a) (.dK vs) from I.hok _ _ h3)
   obtain ⟨o,es,ep,e1,e2,_⟩:=p
   exact PySem.W.kia_one PySem.W.kitx_dict I.kIn ⟨o,e1,e2.1⟩ (kit_inst X.K (by simp) h2) (fun z=>nomatch z) fin
  ·cases h1
 | ty n=>cases h1
end
noncomputable def valD (kvs:List (Key×D))(k:Key):Option D:=(kvs.find? fun kv=>decide (kv.1=k)).map (·.2)
inductive IsKs (K:PySem.W.Frag)(π:Nat->Addr)(n:Nat)(H:Hp):List (Key×V)->List (Key×D)->Prop where
 | nil:IsKs K π n H [] []
 | cons {k:Key}{v:V}{d:D}{vs:List (Key×V)}{ds:List (Key×D)}(h:IsD K π n H v d)(t:IsKs K π n H vs ds):IsKs K π n H ((k,v)::vs) ((k,d)::ds)
section
variable {K:PySem.W.Frag}{π π':Nat->Addr}{n n':Nat}{H H':Hp}
theorem IsKs.mono {vs:List (Key×V)}{ds:List (Key×D)}(e:Ext π n H π' n' H')(h:IsKs K π n H vs ds):IsKs K π' n' H' vs ds:=by
 induction h with
 | nil=>exact .nil
 | cons h t ih=>exact .cons (h.mono e) ih
theorem IsKs.of:∀ {vs:List (Key×V)}{ds:List (Key×D)},vs.map (·.1)=ds.map (·.1)->IsDs K π n H (vs.map (·.2)) (ds.map (·.2))->IsKs K π n H vs ds
 | [],[],_,_=>.nil
 | [],_::_,h,_=>by cases h
 | _::_,[],h,_=>by cases h
 | (k,v)::vs,(k',d)::ds,h,t=>by
  rw [List.map_cons,List.map_cons] at h t
  injection h with h1 h2
  dsimp only at h1
  subst h1
  cases t with
  | cons t1 t2=>exact .cons t1 (IsKs.of h2 t2)
theorem IsKs.append {vs ws:List (Key×V)}{ds es:List (Key×D)}(h:IsKs K π n H vs ds)(h2:IsKs K π n H ws es):IsKs K π n H (vs++ws) (ds++es):=by
 induction h with
 | nil=>exact h2
 | cons h t ih=>exact .cons h ih
theorem IsKs.any {vs:List (Key×V)}{ds:List (Key×D)}(h:IsKs K π n H vs ds)(k:Key):(vs.any fun kv=>decide (kv.1=k))=ds.any fun kv=>decide (kv.1=k):=by
 induction h with
 | nil=>rfl
 | cons h t ih=>rw [List.any_cons,List.any_cons,ih]
theorem IsKs.val {vs:List (Key×V)}{ds:List (Key×D)}(h:IsKs K π n H vs ds)(k:Key):(valD ds k=none/\valV vs k=none)\/∃ v d,valD ds k=some d/\valV vs k=some v/\IsD K π n H v d:=by
 induction h with
 | nil=>exact .inl ⟨rfl,rfl⟩
 | @cons k' v' d' vs ds h t ih=>
  by_cases e:k'=k
  ·exact .inr ⟨v',d',by simp [valD,List.find?_cons,e],by simp [valV,List.find?_cons,e],h⟩
  ·have e1:valD ((k',d')::ds) k=valD ds k:=by simp [valD,List.find?_cons,e]
   have e2:valV ((k',v')::vs) k=valV vs k:=by simp [valV,List.find?_cons,e]
   rw [e1,e2]
   exact ih
theorem IsKs.length {vs:List (Key×V)}{ds:List (Key×D)}(h:IsKs K π n H vs ds):vs.length=ds.length:=by
 induction h with
 | nil=>rfl
 | cons h t ih=>rw [List.length_cons,List.length_cons,ih]
end
noncomputable def tPr (K:PySem.W.Frag)(prs:List (ME×ME)):List (TE×TE):=prs.map fun p=>(tM K p.1,tM K p.2)
section
variable {X:Cx}{a b c:Expr}{ma mb mc:ME}{pos:Pos}
end
theorem hu1 {k:Nat}{A:Around}(r:Room k A):A.units+1<cLine:=by have:=r.un;omega
noncomputable def mNeg (ma:ME):ME:=fun ρ μ=>(ma ρ μ).bind fun p=>(negD p.1).map fun d=>(d,p.2)
end L3
namespace L3
open PySem L2
noncomputable def cloOf (cells:List (Str×Addr)):List (Str×NameKind)->List (Str×Addr)->List (Str×Addr)
 | [],acc=>acc
 | (n,k)::r,acc=>if k=.free then (match cells.lookup n with|some c=>cloOf cells r ((n,c)::acc)|none=>cloOf cells r acc) else cloOf cells r acc
theorem closure_go {env:Env}:∀ (names:List (Str×NameKind))(acc:List (Str×Addr)),(∀ y∈names,y.2=.free->∃ c,env.cells.lookup y.1=some c)->
  (forIn names acc fun (x:Str×NameKind)(cs:List (Str×Addr))=>(do
   if x.2 == .free then (do let c <- cellOf env x.1;pure (ForInStep.yield ((x.1,c)::cs))) else pure (ForInStep.yield cs):Sem (ForInStep (List (Str×Addr)))))=pure (cloOf env.cells names acc)
 | [],acc,_=>rfl
 | (n,k)::r,acc,h=>by
  have ih:=fun acc=>closure_go r acc fun y hy=>h y (List.mem_cons_of_mem _ hy)
  rw [List.forIn_cons]
  by_cases hk:k=.free
  ·subst hk
   obtain ⟨c,hc⟩:=h (n,.free) (List.mem_cons_self ..) rfl
   dsimp only at hc
   have e:cellOf env n=pure c:=by unfold cellOf;rw [hc]
   simp only [cloOf,hc,e,beq_self_eq_true,if_true,pure_bind]
   exact ih _
  ·have e:(k == NameKind.free)=false:=by simpa using hk
   simp only [cloOf,e,hk,if_false,Bool.false_eq_true,pure_bind]
   exact ih _
theorem closure_of {scope:Scope}{env:Env}(h:∀ y∈scope.names,y.2=.free->∃ c,env.cells.lookup y.1=some c):closureFor scope env=pure (cloOf env.cells scope.names []):=by
 have:=closure_go (env:=env) scope.names [] h
 unfold closureFor
 simp only [bind_pure] at *
 exact this
theorem clo_sub {cells:List (Str×Addr)}:∀ (names:List (Str×NameKind))(acc:List (Str×Addr)),(∀ y c,acc.lookup y=some c->cells.lookup y=some c)->∀ y c,(cloOf cells names acc).lookup y=some c->cells.lookup y=some c
 | [],acc,h=>h
 | (n,k)::r,acc,h=>by
  unfold cloOf
  split
  ·split
   ·rename_i c0 hc
    refine clo_sub r _ fun y c e=>?_
    rw [List.lookup_cons] at e
    by_cases hy:y=n
    ·subst hy
     simp only [beq_self_eq_true] at e
     cases e
     exact hc
    ·have:(y == n)=false:=by simpa using hy
     rw [this] at e
     exact h y c e
   ·exact clo_sub r acc h
  ·exact clo_sub r acc h
theorem clo_keep {cells:List (Str×Addr)}:∀ (names:List (Str×NameKind))(acc:List (Str×Addr))(y:Str),(∃ c,acc.lookup y=some c)->∃ c,(cloOf cells names acc).lookup y=some c
 | [],acc,y,h=>h
 | (n,k)::r,acc,y,h=>by
  unfold cloOf
  split
  ·split
   ·refine clo_keep r _ y ?_
    rw [List.lookup_cons]
    by_cases hy:(y == n)=true
    ·rw [hy];exact ⟨_,rfl⟩
    ·have:(y == n)=false:=by simpa using hy
     rw [this]
     exact h
   ·exact clo_keep r acc y h
  ·exact clo_keep r acc y h
theorem clo_has {cells:List (Str×Addr)}:∀ (names:List (Str×NameKind))(acc:List (Str×Addr))(y:Str),(y,NameKind.free)∈names->(∃ c,cells.lookup y=some c)->∃ c,(cloOf cells names acc).lookup y=some c
 | [],acc,y,h,_=>by cases h
 | (n,k)::r,acc,y,h,hc=>by
  unfold cloOf
  rcases List.mem_cons.mp h with h|h
  ·cases h
   obtain ⟨c,hc⟩:=hc
   rw [if_pos rfl,hc]
   exact clo_keep r _ _ ⟨c,by simp [List.lookup_cons]⟩
  ·split
   ·split
    ·exact clo_has r _ y h hc
    ·exact clo_has r _ y h hc
   ·exact clo_has r _ y h hc
structure CompSt (osc:Scope)(N:List Str)(scope:Scope)(xs:List Str):Prop where
 nocell:∀ y∈scope.names,y.2≠.cell
 kind:scope.kind=.function
 names:∀ y∈scope.names,y.2=.local->scope.names.lookup y.1=some .local
 here:∀ x∈xs,scope.names.lookup x=some .local
 free:∀ y∈scope.names,y.2=.free->osc.names.lookup y.1=some .cell\/osc.names.lookup y.1=some .free
 own:∀ y∈scope.names,y.2=.local->y.1∉hid xs N
 nd:N.Nodup
 hnd:(hid xs N).Nodup
 hidn:∀ y∈N,xs.contains y=true->scope.names.lookup (hidName y)=none
theorem CompSt.ok {X:Cx}{scope:Scope}{xs:List Str}(S:CompSt X.env.scope X.N scope xs)(ok:X.Ok):CompOk X scope (cloOf X.env.cells scope.names []) xs:=by
 have has:∀ y∈scope.names,y.2=.free->∃ c,X.env.cells.lookup y.1=some c:=fun y hy hf=>ok.has y.1 (S.free y hy hf)
 refine ⟨closure_of has,S.nocell,S.kind,S.names,S.here,clo_sub scope.names [] (fun y c e=>by cases e),fun y e=>?_,fun y e=>?_,S.hidn⟩
 ·have hm:=PySem.mem_of_lookup e
  exact ⟨S.free _ hm rfl,clo_has scope.names [] y hm (has _ hm rfl)⟩
 ·exact S.own _ (PySem.mem_of_lookup e) rfl
end L3
namespace L3
open PySem L2
section
variable {X:Cx}{pos:Pos}
end
end L3
namespace L3
open PySem L2
noncomputable def noStar:Expr->Bool
 | .Starred ..=>false
 | _=>true
theorem star_cons {e:Expr}{es:List Expr}{env:Env}(h:noStar e=true):starEach (e::es) env=(false,eval e env)::starEach es env:=by
 cases e<;>first|rfl|cases h
theorem star_any {pos:Pos}{env:Env}:∀ {es:List Expr},es.all noStar=true->(backTo pos (starEach es env)).any (·.1)=false
 | [],_=>rfl
 | e::es,h=>by
  rw [List.all_cons,Bool.and_eq_true] at h
  rw [star_cons h.1]
  have:=star_any (pos:=pos) (env:=env) h.2
  simpa [backTo] using this
theorem asg_cons {e:Expr}{es:List Expr}{env:Env}(h:noStar e=true):assignEach (e::es) env=(false,assign e env)::assignEach es env:=by
 cases e<;>first|rfl|cases h
theorem asg_len {env:Env}:∀ {es:List Expr},es.all noStar=true->(assignEach es env).length=es.length
 | [],_=>rfl
 | e::es,h=>by
  rw [List.all_cons,Bool.and_eq_true] at h
  rw [asg_cons h.1,List.length_cons,List.length_cons,asg_len h.2]
theorem asg_star {env:Env}:∀ {es:List Expr},es.all noStar=true->(assignEach es env).findIdx? (·.1)=none
 | [],_=>rfl
 | e::es,h=>by
  rw [List.all_cons,Bool.and_eq_true] at h
  rw [asg_cons h.1,List.findIdx?_cons,asg_star h.2]
  rfl
section
variable {X:Cx}{e a b c:Expr}{es:List Expr}{m:ME}{ms:MA}{pos:Pos}
end
end L3
namespace L3
open PySem L2
structure QE (X:Cx)(e:Expr)(m:ME):Prop where
 h:PE X e (tM X.K m)
structure QT (X:Cx)(e:Expr)(m:MT):Prop where
 h:PT X e (tMT X.K m)
structure QW (X:Cx)(e:Expr)(m:MT):Prop where
 h:PW X e (tMT X.K m)
structure QA (X:Cx)(es:List Expr)(m:MA)(n:Nat):Prop where
 h:PA X es (tMA X.K m)
 l:∀ ρ μ ds μ',m ρ μ=some (ds,μ')->ds.length=n
 s:es.all noStar=true
structure QO (X:Cx)(e:Option Expr)(m:MO):Prop where
 h:PO X e (tMO X.K m)
structure QS (X:Cx)(st:Stmt)(m:MS):Prop where
 h:PS X st (tMS X.K m)
structure QB (X:Cx)(st:List Stmt)(m:MS):Prop where
 h:PSs X st (tMS X.K m)
structure QG (X:Cx)(e:Expr)(g:MG):Prop where
 h:PG X e (tMG X.K g)
structure QGs (X:Cx)(es:List Expr)(is:List Nat):Prop where
 h:PGs X es (gsOf is)
 n:es.length=is.length
 s:es.all noStar=true
structure QI (X:Cx)(ifs:List Expr)(m:MT):Prop where
 h:PIfs X ifs m
structure QP (X:Cx)(pos:Pos)(keys:List (Option Expr))(values:List Expr)(prs:List (ME×ME)):Prop where
 h:PPs X pos keys values (tPr X.K prs)
 a:keys.all (·.isSome)=true
 l:keys.length=values.length
section
variable {X:Cx}{e a b c:Expr}{m ma mb mc:ME}{pos:Pos}{mt mu:MT}{rest es:List Expr}{ms:MA}{n:Nat}
theorem e_var {x:Str}(i:Nat)(hN:X.N[i]? = some x:=by rfl)(hv:Vis X.env.scope x:=by first|exact Or.inl rfl|exact Or.inr (Or.inl rfl)|exact Or.inr (Or.inr rfl))(hd:(x == ("__debug__":Str))=false:=by decide)
  (hcd:(x == ("__classdict__":Str))=false:=by decide):QE X (.Name x pos) (mVar i):=⟨pm_var i (pe_var hN hv hd hcd)⟩
theorem e_int {i:Int}{j:Nat}:QE X (.Constant (.int i) j pos) (mC (.int i)):=⟨pm_int⟩
theorem e_bl {i:Bool}{j:Nat}:QE X (.Constant (.bool i) j pos) (mC (.bl i)):=⟨pm_bl⟩
theorem e_str {i:Str}{j:Nat}:QE X (.Constant (.str i) j pos) (mC (.str i)):=⟨pm_str⟩
theorem e_non {j:Nat}:QE X (.Constant .none j pos) (mC .non):=⟨pm_non⟩
theorem e_op {op:Operator}{r:R2}{f:D->D->Hm->Option (D×Hm)}(ho:OpR X (binaryOp op) r)(hf:OpD X.K f r)(ha:QE X a ma)(hb:QE X b mb):QE X (.BinOp a op b pos) (mOp f ma mb):=⟨pm_op ho hf ha.h hb.h⟩
theorem e_add (ha:QE X a ma)(hb:QE X b mb):QE X (.BinOp a .Add b pos) (mOp addD ma mb):=e_op op_addD addD_ok ha hb
theorem e_sub (ha:QE X a ma)(hb:QE X b mb):QE X (.BinOp a .Sub b pos) (mOp subD ma mb):=e_op op_sub subD_ok ha hb
theorem e_mul (ha:QE X a ma)(hb:QE X b mb):QE X (.BinOp a .Mult b pos) (mOp mulD ma mb):=e_op op_mulB mulD_ok ha hb
theorem e_fdiv (ha:QE X a ma)(hb:QE X b mb):QE X (.BinOp a .FloorDiv b pos) (mOp fdivD ma mb):=e_op op_fdivB fdivD_ok ha hb
theorem e_mod (ha:QE X a ma)(hb:QE X b mb):QE X (.BinOp a .Mod b pos) (mOp modD ma mb):=e_op op_mod modD_ok ha hb
theorem e_pow (ha:QE X a ma)(hb:QE X b mb):QE X (.BinOp a .Pow b pos) (mOp powD ma mb):=e_op op_powB powD_ok ha hb
theorem e_neg (ha:QE X a ma):QE X (.UnaryOp .USub a pos) (mNeg ma):=⟨pm_neg ha.h⟩
theorem e_not (ha:QE X a ma):QE X (.UnaryOp .Not a pos) (mNotV ma):=⟨pm_not ha.h⟩
theorem e_eq {k:Nat}(hr:Room k X.A)(ha:QE X a ma)(hb:QE X b mb):QE X (.Compare a [.Eq] [b] pos) (mOp (eqM false) ma mb):=⟨pm_cmp (op_eqD (hu8 hr)) eqM_ok ha.h hb.h (nomark _)⟩
theorem e_ne {k:Nat}(hr:Room k X.A)(ha:QE X a ma)(hb:QE X b mb):QE X (.Compare a [.NotEq] [b] pos) (mOp (eqM true) ma mb):=⟨pm_cmp (op_neD (hu8 hr)) eqM_ok ha.h hb.h (nomark _)⟩
theorem e_lt (ha:QE X a ma)(hb:QE X b mb):QE X (.Compare a [.Lt] [b] pos) (mOp ltD ma mb):=⟨pm_cmp op_lt intCmp_ok ha.h hb.h (nomark _)⟩
theorem e_le (ha:QE X a ma)(hb:QE X b mb):QE X (.Compare a [.LtE] [b] pos) (mOp leD ma mb):=⟨pm_cmp op_le intCmp_ok ha.h hb.h (nomark _)⟩
theorem e_gt (ha:QE X a ma)(hb:QE X b mb):QE X (.Compare a [.Gt] [b] pos) (mOp gtD ma mb):=⟨pm_cmp op_gt intCmp_ok ha.h hb.h (nomark _)⟩
theorem e_ge (ha:QE X a ma)(hb:QE X b mb):QE X (.Compare a [.GtE] [b] pos) (mOp geD ma mb):=⟨pm_cmp op_ge intCmp_ok ha.h hb.h (nomark _)⟩
noncomputable def noSet:Expr->Bool
 | .Set ..=>false
 | _=>true
theorem e_one {op:BoolOp}(h:QE X a m):QE X (.BoolOp op [a] pos) m:=⟨pm_one h.h⟩
theorem e_and (ha:QE X a ma)(hb:QE X (.BoolOp .And (b::rest) pos) mb):QE X (.BoolOp .And (a::b::rest) pos) (mAndV ma mb):=⟨pm_and ha.h hb.h⟩
theorem e_or (ha:QE X a ma)(hb:QE X (.BoolOp .Or (b::rest) pos) mb):QE X (.BoolOp .Or (a::b::rest) pos) (mOrV ma mb):=⟨pm_or ha.h hb.h⟩
theorem e_if (hc:QT X c mt)(ha:QE X a ma)(hb:QE X b mb):QE X (.IfExp c a b pos) (mIfE mt ma mb):=⟨pm_ifExp hc.h ha.h hb.h⟩
theorem a_nil:QA X [] mNil 0:=⟨pma_nil,len_nil,rfl⟩
theorem a_cons (ha:QE X e m)(hr:QA X es ms n)(h:noStar e=true:=by rfl):QA X (e::es) (mCons m ms) (n+1):=⟨pma_cons ha.h hr.h (star_cons h),len_cons hr.l,by rw [List.all_cons,h,hr.s];rfl⟩
theorem e_tup {x1:Nat}(h:QA X es ms n):QE X (.Tuple es x1 pos) (mTup ms):=⟨pm_tup h.h⟩
theorem e_lst (h:QA X es ms n):QE X (.List es pos) (mLst ms):=⟨pm_lst h.h⟩
noncomputable def noSlice:Expr->Bool
 | .Slice ..=>false
 | _=>true
theorem plainIx {b:Expr}(h:noSlice b=true):PlainIx b:=by
 intro o i
 cases b<;>first|rfl|cases h
theorem e_ix (ha:QE X a ma)(hb:QE X b mb)(h:noSlice b=true:=by rfl):QE X (.Subscript a b pos) (mOp ixD ma mb):=⟨pm_ix ha.h hb.h (plainIx h)⟩
theorem o_none:QO X none mNoPart:=⟨pmo_none⟩
theorem o_some (h:QE X e m):QO X (some e) (mPart m):=⟨pmo_some h.h⟩
theorem e_slice {lo hi:Option Expr}{ml mh:MO}{p2:Pos}(ha:QE X a ma)(hl:QO X lo ml)(hu:QO X hi mh):QE X (.Subscript a (.Slice lo hi none p2) pos) (mSlice ma ml mh):=⟨pm_slice ha.h hl.h hu.h⟩
theorem e_call {k:Nat}{f:Addr}{fd:FuncData}{ps:List Str}{fm:MF}{x:Str}{p:Pos}(F:FnOk X.prog X.w X.K X.mg X.base CX0 k f fd ps (spM X.K n fm))(hr:Room k X.A)(hm:X.mg x=some (.ref f))
  (hk:PySem.W.keepIn X.K (.ref f)=true)(hb:Binds X.K fd ps [])(ha:QA X (e::es) ms n)(hg:Gl X x:=by rfl)(hdb:(x == ("__debug__":Str))=false:=by decide):QE X (.Call (.Name x p) (e::es) [] pos) (mCall fm ms):=by
 have hs:=ha.s
 rw [List.all_cons,Bool.and_eq_true] at hs
 exact ⟨pm_call F hr hg hm hk hb ha.h ha.l hdb (star_cons hs.1) (star_any hs.2)⟩
theorem e_callB {f:MF}{r:List V->Hp->VK->Prop}{id:String}{x:Str}{p:Pos}(hc:CallR X (.builtin id) r)(hf:CallD X.K f r)(hm:X.mg x=none)(hv:bootBuiltins x=some (.builtin id))(ha:QA X (e::es) ms n)
  (hg:Gl X x:=by rfl)(hn:x ≠ "__name__":=by decide) (hdb:(x == ("__debug__":Str))=false:=by decide):QE X (.Call (.Name x p) (e::es) [] pos) (mCall f ms):=by
 have hs:=ha.s
 rw [List.all_cons,Bool.and_eq_true] at hs
 exact ⟨pm_callB hc hf hg hm hv ha.h hn hdb (star_cons hs.1) (star_any hs.2)⟩
theorem e_callT {f:MF}{r:List V->Hp->VK->Prop}{T:String}{x:Str}{p:Pos}(hc:CallR X (.type T) r)(hf:CallD X.K f r)(hm:X.mg x=none)(hv:bootBuiltins x=some (.type T))(ha:QA X (e::es) ms n)
  (hg:Gl X x:=by rfl)(hn:x ≠ "__name__":=by decide) (hdb:(x == ("__debug__":Str))=false:=by decide):QE X (.Call (.Name x p) (e::es) [] pos) (mCall f ms):=by
 have hs:=ha.s
 rw [List.all_cons,Bool.and_eq_true] at hs
 exact ⟨pm_callTy hc hf hg hm hv ha.h hn hdb (star_cons hs.1) (star_any hs.2)⟩
theorem e_ty {x:Str}{n:String}(hm:X.mg x=none)(hv:bootBuiltins x=some (.type n))(hg:Gl X x:=by rfl)(hn:x ≠ "__name__":=by decide) (hd:(x == ("__debug__":Str))=false:=by decide):QE X (.Name x pos) (mC (.ty n)):=⟨pm_ty hg hm hv hn hd⟩
theorem t_eq {k:Nat}(hr:Room k X.A)(ha:QE X a ma)(hb:QE X b mb):QT X (.Compare a [.Eq] [b] pos) (mTest (mOp (eqM false) ma mb)):=⟨pmt_cmp (op_eqD (hu8 hr)) eqM_ok ha.h hb.h (nomark _)⟩
theorem t_ne {k:Nat}(hr:Room k X.A)(ha:QE X a ma)(hb:QE X b mb):QT X (.Compare a [.NotEq] [b] pos) (mTest (mOp (eqM true) ma mb)):=⟨pmt_cmp (op_neD (hu8 hr)) eqM_ok ha.h hb.h (nomark _)⟩
theorem t_lt (ha:QE X a ma)(hb:QE X b mb):QT X (.Compare a [.Lt] [b] pos) (mTest (mOp ltD ma mb)):=⟨pmt_cmp op_lt intCmp_ok ha.h hb.h (nomark _)⟩
theorem t_le (ha:QE X a ma)(hb:QE X b mb):QT X (.Compare a [.LtE] [b] pos) (mTest (mOp leD ma mb)):=⟨pmt_cmp op_le intCmp_ok ha.h hb.h (nomark _)⟩
theorem t_gt (ha:QE X a ma)(hb:QE X b mb):QT X (.Compare a [.Gt] [b] pos) (mTest (mOp gtD ma mb)):=⟨pmt_cmp op_gt intCmp_ok ha.h hb.h (nomark _)⟩
theorem t_ge (ha:QE X a ma)(hb:QE X b mb):QT X (.Compare a [.GtE] [b] pos) (mTest (mOp geD ma mb)):=⟨pmt_cmp op_ge intCmp_ok ha.h hb.h (nomark _)⟩
noncomputable def plainT:Expr->Bool
 | .UnaryOp .Not ..=>false
 | .BoolOp ..=>false
 | .IfExp ..=>false
 | .Compare ..=>false
 | _=>true
theorem plain_t {e:Expr}{env:Env}(h:plainT e=true):∀ whole,isTrue e env whole=(do let v <- whole;standAt e.pos;holding [v] (truthy v)):=by
 intro whole
 cases e<;>first|rfl|cases h|skip
 rename_i op x p
 cases op<;>first|rfl|cases h
theorem t_not (ha:QT X a mt):QT X (.UnaryOp .Not a pos) (mNotT mt):=⟨pmt_not ha.h⟩
theorem w_and1 (ha:QT X a mt):QW X (.BoolOp .And [a] pos) mt:=⟨pmw_and1 ha.h⟩
theorem w_or1 (ha:QT X a mt):QW X (.BoolOp .Or [a] pos) mt:=⟨pmw_or1 ha.h⟩
theorem w_and (ha:QT X a mt)(hb:QW X (.BoolOp .And (b::rest) pos) mu):QW X (.BoolOp .And (a::b::rest) pos) (mAndT mt mu):=⟨pmw_and ha.h hb.h⟩
theorem w_or (ha:QT X a mt)(hb:QW X (.BoolOp .Or (b::rest) pos) mu):QW X (.BoolOp .Or (a::b::rest) pos) (mOrT mt mu):=⟨pmw_or ha.h hb.h⟩
theorem t_bool (h:QW X e mt):QT X e mt:=⟨h.h.pt⟩
theorem i_nil:QI X [] mTrue:=⟨pifs_nil⟩
theorem i_one (h:QT X c mt):QI X [c] mt:=⟨pifs_one h.h⟩
end
section
variable {X:Cx}{e a b c:Expr}{m:ME}{pos:Pos}{mt:MT}{st:Stmt}{rest body orelse:List Stmt}{ms mr mu:MS}{n:Nat}{is:List Nat}{es:List Expr}{g:MG}
theorem b_nil:QB X [] mNext:=⟨pmss_nil⟩
theorem b_cons (h1:QS X st ms)(h2:QB X rest mr):QB X (st::rest) (mSeq ms mr):=⟨pmss_cons h1.h h2.h⟩
theorem b_one (h1:QS X st ms):QB X [st] ms:=⟨pmss_one h1.h⟩
theorem s_pass:QS X (.Pass pos) mNext:=⟨pms_pass⟩
theorem s_ret (he:QE X e m):QS X (.Return (some e) pos) (mRet m):=⟨pms_ret he.h⟩
noncomputable def noComp:Expr->Bool
 | .ListComp ..=>false
 | .SetComp ..=>false
 | .DictComp ..=>false
 | _=>true
theorem swaps_of {e:Expr}{t:Option Expr}{n:Nat}{env:Env}(h:noComp e=true):swapsWith e t n env=pure false:=by
 cases e<;>first|rfl|cases h
theorem s_expr (he:QE X e m)(h:noComp e=true:=by rfl):QS X (.Expr e pos) (mDrop m):=⟨pms_expr he.h (swaps_of h)⟩
theorem s_if (hc:QT X c mt)(ha:QB X body ms)(hb:QB X orelse mu):QS X (.If c body orelse pos) (mIfS mt ms mu):=⟨pms_if hc.h ha.h hb.h⟩
theorem s_set (i:Nat){x:Str}{pos':Pos}(hN:X.N.Nodup)(he:QE X e m)(h:noComp e=true:=by rfl)(hi:X.N[i]? = some x:=by rfl)(hx:Loc X.env.scope x:=by first|exact Or.inl rfl|exact Or.inr rfl)
  (hf:X.fn x=true\/X.env.scope.names.lookup x=some .local:=by first|exact .inl rfl|exact .inr rfl):QS X (.Assign [.Name x pos'] e pos) (mSet i m):=⟨pms_set hN hi hx he.h (swaps_of h) hf⟩
theorem g_name (i:Nat){x:Str}(hN:X.N.Nodup)(hi:X.N[i]? = some x:=by rfl)(hx:Loc X.env.scope x:=by first|exact Or.inl rfl|exact Or.inr rfl)
  (hf:X.fn x=true\/X.env.scope.names.lookup x=some .local:=by first|exact .inl rfl|exact .inr rfl):QG X (.Name x pos) (gSet i):=⟨pmg_name hN hi hx hf⟩
theorem gs_nil:QGs X [] []:=⟨pgs_nil,rfl,rfl⟩
theorem gs_cons (i:Nat){x:Str}(hN:X.N.Nodup)(hr:QGs X es is)(hi:X.N[i]? = some x:=by rfl)(hx:Loc X.env.scope x:=by first|exact Or.inl rfl|exact Or.inr rfl)
  (hf:X.fn x=true\/X.env.scope.names.lookup x=some .local:=by first|exact .inl rfl|exact .inr rfl):QGs X (.Name x pos::es) (i::is):=
 ⟨pgs_cons (pg_name hN hi hx hf) hr.h (by rw [asg_cons (e:=.Name x pos) rfl];rfl),by rw [List.length_cons,List.length_cons,hr.n],by rw [List.all_cons,hr.s];rfl⟩
theorem g_tup {k:Nat}(h:QGs X es is)(hc:X.calm=true:=by rfl):QG X (.Tuple es k pos) (gTupD is):=⟨pmg_tup hc h.h ((asg_len h.s).trans h.n) (asg_star h.s)⟩
noncomputable def noTup:Expr->Bool
 | .Tuple ..=>false
 | _=>true
theorem swapped_of {tg e:Expr}{env:Env}(h:noTup e=true):swappedStores [tg] e env=pure none:=by
 cases e<;>first|(cases tg<;>rfl)|cases h
theorem s_unp {k:Nat}{pt:Pos}(he:QE X e m)(hg:QG X (.Tuple es k pt) g)(h:noTup e=true:=by rfl):QS X (.Assign [.Tuple es k pt] e pos) (mAsg m g):=
 ⟨pms_asg he.h hg.h (by cases e<;>rfl) (swapped_of h) (by rw [asg_cons (e:=.Tuple es k pt) rfl];rfl)⟩
end
section
variable {P:Program}{w:World}{K:PySem.W.Frag}{mg:Str->Option Value}{base:Heap}
theorem fn_okQ {x qual:Str}{st:Stmt}{f:Addr}{fd:FuncData}{N ps:List Str}{k:Nat}{body:List Stmt}{m:MS}(F:Fun K x qual st f fd)(S:FnScope N ps (defScope st))(hps:ps.length<=N.length)(hbd:defBody st=body)
  (hbody:∀ (cdv:Value)(A:Around)(outer:List Env)(s:Shared)(H:Hp)(E:XK),Room k (A.deeper (PyProof.Rows.envOfC qual (defScope st) s.heap.objs.size f cdv))->
   QB (cxOf CX0 P w K mg base N qual (defScope st) f cdv A outer s H E).nox body m):FnOk P w K mg base CX0 (k+1) f fd ps (spM K ps.length (runM N.length m)):=
 fn_ok F S hps fun cdv A outer s H E hr=>by
  rw [hbd]
  exact (hbody cdv A outer s H E hr).h
end
end L3
namespace L3
open PySem L2
noncomputable abbrev Src:=Hm->Nat->Option (Option D)
noncomputable abbrev MI:=Rho->Hm->Option (Src×Nat×Hm)
noncomputable def tMI (K:PySem.W.Frag)(m:MI):TI:=fun σ H R=>∃ π ρ μ src n μ',Rp K π H μ/\En K π μ.length H σ ρ/\m ρ μ=some (src,n,μ') /\
 ∀ π' H' J,Ext π μ.length H π' μ'.length H'->Rp K π' H' μ'->Wk K J src π' μ'.length H'->R J H'
structure QJ (X:Cx)(e:Expr)(m:MI):Prop where
 h:∀ tg,PI X tg e (tMI X.K m)
section
variable {X:Cx}{pos:Pos}{e:Expr}{m:ME}
noncomputable def iBad:MI:=fun _ _=>none
theorem j_bad:QJ X e iBad:=⟨fun tg pins s σ H R I hw=>by
 obtain ⟨π,ρ,μ,src,n,μ',Rr,E,hm,k⟩:=hw
 cases hm⟩
noncomputable def signs (x:Str):List D:=x.cps.toList.map fun c=>.str ⟨#[c]⟩
noncomputable def seqS (μ:Hm):D->Option (List D)
 | .str x=>some (signs x)
 | d=>seqD μ d
noncomputable def srcS (x:D):Src:=fun μ i=>(seqS μ x).map fun xs=>xs[i]?
noncomputable def Its (x:Str):It:=⟨fun i _=>i<x.cps.size,fun i H v H'=>H'=H/\∃ c,x.cps[i]? = some c/\v=.str ⟨#[c]⟩,fun i _=>x.cps.size<=i⟩
theorem turn_str {P:Program}{w:World}{K:PySem.W.Frag}{tg:Expr}{T:String}(hT:T = "str_ascii_iterator"\/T = "str_iterator") (it:Addr)(x:Str)(t:Tok):Turn P w K tg (Its x) [it] it (fun i h=>h.IsStrIter it T x t i) where
 mem:=by simp
 obj:=fun i h st b hb=>by
  have e:b=it:=by simpa using hb
  subst e
  obtain ⟨o,e,c,d⟩:=st
  exact ⟨o,e,fun v z=>by rw [d] at z;cases z⟩
 keep:=fun i h h' st k=>let ⟨o,e,c,d⟩:=st;⟨o,k it (by simp) o e,c,d⟩
 item:=by
  intro X hP hw hK hc i pins s σ H E I hf st hg
  subst hP hw hK
  obtain ⟨f0,f1,f2,f3,f4,f5⟩:=hf it (by simp)
  have W:Walks X.prog X.w X.A it [it] [it] x.cps.size (SignAt x) (fun i h=>h.IsStrIter it T x t i):=by
   rcases hT with rfl|rfl
   ·exact Walks.strAscii (I.ok.hd hc) it x t
   ·exact Walks.strWide (I.ok.hd hc) it x t
  refine W.item i s _ _ hg st fun v h' tk hv st' kk=>?_
  obtain ⟨c,u,hx,rfl⟩:=hv
  have I1:Inv X pins σ H { s with heap:=h',toks:=tk }:=I.turned (fun b o hb e=>kk b o (by simpa using hb) e) f0 f1 f3 f4 f5
  obtain ⟨o,e,c1,d⟩:=id st'
  exact ⟨_,rfl,go_of (s:={ s with heap:=h',toks:=tk }) e c1 d (by rcases hT with rfl|rfl<;>decide) ⟨.str ⟨#[c]⟩,H,I1,⟨u,rfl⟩,⟨rfl,c,hx,rfl⟩,st',fun b hb=>(hf b hb).1⟩⟩
 done:=by
  intro X hP hw hK hc i pins s σ H E I hf st hg
  subst hP hw hK
  obtain ⟨f0,f1,f2,f3,f4,f5⟩:=hf it (by simp)
  have hg':x.cps.size<=i:=hg
  rcases hT with rfl|rfl
  ·exact wpAny_pyNext_ascii_end (I.ok.hd hc) st (by simp [hg']) fun h' eb=>⟨rfl,I.turned (t':=s.toks) (fun b o hb e=>eb b o hb e) f0 f1 f3 f4 f5⟩
  ·exact wpAny_pyNext_wide_end (I.ok.hd hc) st (by simp [hg']) fun h' eb=>⟨rfl,I.turned (t':=s.toks) (fun b o hb e=>eb b o hb e) f0 f1 f3 f4 f5⟩
 self:=fun _ _ _ _ _ st h=>by
  rcases hT with rfl|rfl
  ·exact wpAny_pyIter_striter_ascii st h
  ·exact wpAny_pyIter_striter_wide st h
theorem pi_str {l tg:Expr}{tl:TE}(hl:PE X l tl):PI X tg l (fun σ H R=>tl σ H fun v H1=>∃ x,v=.str x/\R (Its x) H1):=by
 intro pins s σ H R I h
 refine thn (hl pins s σ H _ I h) fun v s1 ⟨y,H1,I1,r1,q1⟩=>?_
 obtain ⟨x,e,q⟩:=q1
 subst e
 obtain ⟨t,rfl⟩:=r1
 have fin:∀ T,(T = "str_ascii_iterator"\/T = "str_iterator")->PIE X pins σ tg R (.ref s1.heap.objs.size) { s1 with heap:=s1.heap.push { cls:=.type T,data:=.fields #[.str x t,.int 0 0] } }:=fun T hT=>by
  refine ⟨s1.heap.objs.size,[s1.heap.objs.size],_,_,H1,rfl,I1.kept (t':=s1.toks) fun b o e=>Heap.get?_push_of_some _ e,turn_str hT _ x t,⟨_,Heap.get?_push_size _ rfl,rfl,rfl⟩,fun b hb=>?_,q⟩
  have e:b=s1.heap.objs.size:=by simpa using hb
  subst e
  exact I1.fpOk (Nat.le_refl _) (I1.hok.fresh (Nat.le_refl _))
 cases ha:x.cps.all (·<128)
 ·exact wpAny_pyIter_wide ha (fin _ (.inr rfl))
 ·exact wpAny_pyIter_ascii ha (fin _ (.inl rfl))
theorem wk_str {K:PySem.W.Frag}{x:Str}{π:Nat->Addr}{n:Nat}{H:Hp}:Wk K (Its x) (srcS (.str x)) π n H:=by
 refine ⟨fun π' μ H' i e R z=>?_,fun π' μ H' i d e R z=>?_⟩
 ·have z':(signs x)[i]? = none:=Option.some.inj z
  have:=List.getElem?_eq_none_iff.mp z'
  rw [signs,List.length_map,Array.length_toList] at this
  exact this
 ·have z':(signs x)[i]? = some d:=Option.some.inj z
  unfold signs at z'
  rw [List.getElem?_map,Array.getElem?_toList] at z'
  obtain ⟨c,h1,h2⟩:=Option.map_eq_some_iff.mp z'
  subst h2
  refine ⟨(Array.getElem?_eq_some_iff.mp h1).1,fun v H2 ⟨e1,c',e2,e3⟩=>?_⟩
  subst e1
  rw [h1] at e2
  cases e2
  rw [e3]
  exact ⟨.refl,R,.str _⟩
noncomputable def iSeqD (m:ME):MI:=fun ρ μ=>(m ρ μ).bind fun p=>(seqS p.2 p.1).map fun xs=>(srcS p.1,xs.length+1,p.2)
theorem j_seq (h:QE X e m):QJ X e (iSeqD m):=⟨fun tg pins s σ H R I hw=>by
 obtain ⟨π,ρ,μ,src,n,μ',Rr,E,hm,k⟩:=hw
 obtain ⟨⟨x,μ1⟩,h1,hm⟩:=Option.bind_eq_some_iff.mp hm
 obtain ⟨xs,h2,hm⟩:=Option.map_eq_some_iff.mp hm
 cases hm
 have key:∀ (hs:seqD μ1 x=some xs)(hx:srcS x=srcSeq x),wpAny (model X.prog X.w) X.A (eval e X.env) (fun v s1=>wpAny (model X.prog X.w) X.A (pyIter v) (PIE X pins σ tg R) X.xe s1) X.xe s:=fun hs hx=>by
  refine pi_seq h.h pins s σ H R I ⟨π,ρ,μ,x,_,Rr,E,h1,fun π1 v1 H1 e1 R1 i1=>?_⟩
  obtain ⟨a,e,q⟩:=wk_seq R1 i1 hs
  subst e
  refine ⟨a,rfl,?_⟩
  dsimp only at k
  rw [hx] at k
  rcases q with ⟨q1,W⟩|⟨q1,W⟩
  ·exact .inl ⟨q1,k π1 H1 _ e1 R1 W⟩
  ·exact .inr ⟨q1,k π1 H1 _ e1 R1 W⟩
 cases x with
 | str z=>
  refine pi_str h.h pins s σ H R I ⟨π,ρ,μ,.str z,_,Rr,E,h1,fun π1 v1 H1 e1 R1 i1=>?_⟩
  cases i1
  exact ⟨z,rfl,k π1 H1 _ e1 R1 wk_str⟩
 | _=>exact key h2 rfl⟩
noncomputable def iRng1D (ms:MA):MI:=fun ρ μ=>(ms ρ μ).bind fun p=>match p.1 with
 | [.int j]=>if -(2 ^ 62)<=j/\j<2 ^ 62 then some (srcRng 0 j.toNat,j.toNat+1,p.2) else none
 | _=>none
theorem j_range1 {a:Expr}{ms:MA}{n:Nat}{p:Pos}(hgl:Gl X "range") (hmg:X.mg "range" = none) (ha:QA X [a] ms n):QJ X (.Call (.Name "range" p) [a] [] pos) (iRng1D ms):=⟨fun tg pins s σ H R I hw=>by
 have hs:=ha.s
 rw [List.all_cons,Bool.and_eq_true] at hs
 obtain ⟨π,ρ,μ,src,n',μ',Rr,E,hm,k⟩:=hw
 obtain ⟨⟨x,μ1⟩,h1,hm⟩:=Option.bind_eq_some_iff.mp hm
 refine pi_range1 hgl hmg ha.h (star_cons hs.1) pins s σ H R I ⟨π,ρ,μ,x,μ1,Rr,E,h1,fun π1 vs H1 e1 R1 i1=>?_⟩
 dsimp only at hm
 split at hm
 ·rename_i j
  split at hm
  ·rename_i hb
   cases hm
   cases i1 with
   | cons i1 t1=>
    cases i1
    cases t1
    exact ⟨j,rfl,hb.1,hb.2,k π1 H1 _ e1 R1 wk_rng⟩
  ·cases hm
 ·cases hm⟩
noncomputable def mForI (it:MI)(g:MG)(b:MS):MS:=fun ρ μ=>(it ρ μ).bind fun p=>goFor p.1 g b p.2.1 0 ρ p.2.2
end
noncomputable def mCompG (bd:BD)(it:MI)(c:MT)(e:ME):ME:=fun ρ μ=>(it ρ μ).bind fun p=>
 (goCompG p.1 bd c e ρ p.2.2.length p.2.1 0 (p.2.2++[.lst []])).map fun μ'=>(.loc p.2.2.length,μ')
noncomputable abbrev mCompI (it:MI)(c:MT)(e:ME):ME:=mCompG bdOne it c e
noncomputable def gB (n:Nat)(bd:BD):MG:=fun d ρ μ=>(bd d μ).map fun x=>ρ.take n++x
theorem pgb_name {X:Cx}{n:Nat}{x:Str}{px:Pos}(hl:X.N.length=n+1)(h:PG X (.Name x px) (tMG X.K (gSet n))):PG X (.Name x px) (tMG X.K (gB n bdOne)):=by
 intro pins s σ H v u Q I r hw
 obtain ⟨π,ρ,μ,d,ρ',R,E,hd,hm,k⟩:=hw
 cases hm
 refine h pins s σ H v u Q I r ⟨π,ρ,μ,d,_,R,E,hd,rfl,fun σ' E'=>k σ' ?_⟩
 have hρ:ρ.length=n+1:=by rw [<- E.len,I.len,hl]
 have e:ρ.set n (some d)=ρ.take n++[some d]:=by
  rw [List.set_eq_take_append_cons_drop,if_pos (by omega),List.drop_of_length_le (by omega)]
 rw [e] at E'
 exact E'
theorem setAll_ext:∀ (xs:List D)(a b:Rho),b.length=xs.length->setAll (a++b) (List.range' a.length xs.length) xs=a++xs.map some
 | [],a,[],_=>by simp [setAll]
 | x::xs,a,y::b,h=>by
  have ih:=setAll_ext xs (a++[some x]) b (by simpa using h)
  rw [List.length_cons,List.range'_succ]
  show setAll ((a++y::b).set a.length (some x)) (List.range' (a.length+1) xs.length) xs=_
  rw [List.set_append_right _ _ (Nat.le_refl _),Nat.sub_self,List.set_cons_zero]
  rw [List.length_append,List.length_singleton] at ih
  rw [List.append_assoc,List.singleton_append] at ih
  rw [ih]
  simp
theorem pgb_tup {X:Cx}{n k:Nat}{tg:Expr}(hl:X.N.length=n+k)(h:PG X tg (tMG X.K (gTupD (List.range' n k)))):PG X tg (tMG X.K (gB n (bdTup k))):=by
 intro pins s σ H v u Q I r hw
 obtain ⟨π,ρ,μ,d,ρ',R,E,hd,hm,kk⟩:=hw
 obtain ⟨y,h1,h2⟩:=Option.map_eq_some_iff.mp hm
 obtain ⟨xs,h3,h4⟩:=Option.bind_eq_some_iff.mp h1
 split at h4
 ·rename_i hx
  cases h4
  subst h2
  have hρ:ρ.length=n+k:=by rw [<- E.len,I.len,hl]
  refine h pins s σ H v u Q I r ⟨π,ρ,μ,d,setAll ρ (List.range' n k) xs,R,E,hd,(by simp only [gTupD,h3,Option.bind_some,List.length_range',if_pos hx]),fun σ' E'=>kk σ' ?_⟩
  have e:=setAll_ext xs (ρ.take n) (ρ.drop n) (by rw [List.length_drop];omega)
  rw [List.take_append_drop,List.length_take,Nat.min_eq_left (by omega),hx] at e
  rw [e] at E'
  exact E'
 ·cases h4
section
variable {X:Cx}{scope:Scope}{cl:List (Str×Addr)}{xs:List Str}{tg elt iter:Expr}{ifs:List Expr}{pos ppos:Pos}{mi:MI}{me:ME}{mc:MT}{bd:BD}
theorem en_none {K:PySem.W.Frag}{π:Nat->Addr}{n:Nat}{H:Hp}{σ:St}{ρ o:Rho}{k:Nat}(E:En K π n H σ (ρ++o))(ho:o.length=k):En K π n H σ (ρ++List.replicate k none):=by
 refine ⟨by rw [E.len,List.length_append,List.length_append,List.length_replicate,ho],fun i d q=>?_⟩
 by_cases hi:i<ρ.length
 ·rw [List.getElem?_append_left hi] at q
  exact E.get i d (by rw [List.getElem?_append_left hi];exact q)
 ·rw [List.getElem?_append_right (Nat.not_lt.mp hi),List.getElem?_replicate] at q
  split at q<;>cases q
theorem comp_core (O:CompOk X scope cl xs)(hcalm:X.calm=true)(hi:PI X tg iter (tMI X.K mi))(hb':∀ d μ z,bd d μ=some z->z.length=xs.length)(hg:∀ C s₀ H₀ fp,PG (compCx X scope cl C (hid xs X.N++xs) s₀ H₀ fp) tg (tMG X.K (gB X.N.length bd)))
  (hc:∀ C s₀ H₀ fp,PIfs (compCx X scope cl C (hid xs X.N++xs) s₀ H₀ fp) ifs mc)(he:∀ C s₀ H₀ fp,PE (compCx X scope cl C (hid xs X.N++xs) s₀ H₀ fp) elt (tM X.K me))
  (hs:∀ x,foldedSetIterable iter X.env x=pure x){use:Option (Value->Sem Unit)}{QQ:Value->Shared->Prop}{pins:List (Addr×Obj)}{s:Shared}{σ:St}{H:Hp}{π:Nat->Addr}{ρ:Rho}{μ μ':Hm}{d:D}
  (I:Inv X pins σ H s)(R:Rp X.K π H μ)(E:En X.K π μ.length H σ ρ)(hm:mCompG bd mi mc me ρ μ=some (d,μ'))
  (fin:∀ (p C:Addr)(π':Nat->Addr)(H':Hp)(s':Shared),Ext π μ.length H π' μ'.length H'->Rp X.K π' H' μ'->IsD X.K π' μ'.length H' (.ref p) d->(∃ m,s'.heap.Ns C m)->X.s₀.heap.objs.size<=C->C≠X.env.locals->H' C=none->
   (∀ y c,X.env.cells.lookup y=some c->c≠C)->(∀ q∈X.pn++pins,q.1≠C)->(∀ h',(∀ b o,b≠C->s'.heap.get? b=some o->h'.get? b=some o)->Inv X pins σ H' { s' with heap:=h' })->
   compPost (model X.prog X.w) X.A X.xe use QQ (.ref p) C (.ok .next) s') :
  wpAny (model X.prog X.w) X.A (comprehension (.ListComp elt [⟨tg,iter,ifs,0⟩] scope pos) scope X.env ppos (newList []) false (eval iter X.env) use) QQ X.xe s:=by
 obtain ⟨⟨src,nt,μ1⟩,h1,hm⟩:=Option.bind_eq_some_iff.mp hm
 obtain ⟨μ2,h3,hm⟩:=Option.map_eq_some_iff.mp hm
 cases hm
 have hit:wpAny (model X.prog X.w) X.A (eval iter X.env) (fun v s1=>wpAny (model X.prog X.w) X.A (pyIter v) (PIE X pins σ tg fun J H1=>∃ π1,Ext π μ.length H π1 μ1.length H1/\Rp X.K π1 H1 μ1/\Wk X.K J src π1 μ1.length H1) X.xe s1) X.xe s:=
  hi pins s σ H _ I ⟨π,ρ,μ,src,nt,μ1,R,E,h1,fun π1 H1 J e1 R1 W=>⟨π1,e1,R1,W⟩⟩
 refine wpAny_comprehension_free rfl hs O.clos O.kind O.names (wpAny_mono hit (fun v s1 hv=>wpAny_mono hv (fun itv s2 h4=>?_) fun _ _ z=>z) fun _ _ z=>z)
 obtain ⟨it,fp,tn,J,H2,rfl,I2,T,st2,f2,π1,e1,R1,W⟩:=h4
 refine wpAny_newObj_type (wpAny_newFunctionEnv O.nocell (by intro y hy;simp at hy) (fun h₁ hns₁ hsb₁=>?_) O.kind)
 dsimp only at hns₁ hsb₁ ⊢
 have hfr:H2 s2.heap.objs.size=none:=I2.hok.fresh (Nat.le_refl _)
 have I3:Inv X pins σ (upd H2 s2.heap.objs.size (.lst [])) { s2 with heap:=s2.heap.push { cls:=.type "list",dict:=none,data:=.seq ([]:List Value).toArray } }:=
  I2.laid (t':=s2.toks) (fun b u e=>Heap.get?_push_of_some _ e) (Nat.le_refl _) ⟨Nat.zero_le _,[],0,.nil,Heap.get?_push_size _ rfl⟩
 obtain ⟨e2,R2,q2⟩:=R1.alloc (c:=.lst []) (o:=.lst []) hfr .nil
 generalize hs3:({ s2 with heap:=s2.heap.push { cls:=.type "list",dict:=none,data:=.seq ([]:List Value).toArray } }:Shared)=s3 at I3
 have hheap:s2.heap.push { cls:=.type "list",dict:=none,data:=.seq ([]:List Value).toArray } = s3.heap:=by rw [<- hs3]
 have e12:=e1.trans e2
 generalize hH3:upd H2 s2.heap.objs.size (.lst [])=H3 at I3 e2 R2 e12
 generalize hπ3:ext1 π1 μ1.length s2.heap.objs.size=π3 at e2 R2 q2 e12
 have hob:∀ b∈fp,∃ o,s3.heap.get? b=some o:=fun b hb=>by
  obtain ⟨o,ho,_⟩:=T.obj 0 _ st2 b hb
  exact ⟨o,by rw [<- hheap];exact Heap.get?_push_of_some _ ho⟩
 have f3:∀ b∈fp,FpOk X pins H3 b:=fun b hb=>by
  obtain ⟨o,ho,_⟩:=T.obj 0 _ st2 b hb
  refine ⟨?_,(f2 b hb).2⟩
  rw [<- hH3,upd_ne (Nat.ne_of_lt (Heap.lt_size ho))]
  exact (f2 b hb).1
 have st3:tn 0 s3.heap:=T.keep 0 _ _ st2 fun b hb o e=>by rw [<- hheap];exact Heap.get?_push_of_some _ e
 have hC:(s2.heap.push { cls:=.type "list",dict:=none,data:=.seq ([]:List Value).toArray }).objs.size=s3.heap.objs.size:=by rw [hheap]
 rw [hheap] at hns₁ hsb₁
 have hk1:∀ b o,s3.heap.get? b=some o->h₁.get? b=some o:=fun b o e=>hsb₁.extBut b o (Nat.ne_of_lt (Heap.lt_size e)) (Heap.get?_push_of_some _ e)
 have E3:En X.K π3 (μ1++[C.lst []]).length H3 (σ++List.replicate xs.length none) (ρ++List.replicate xs.length none):=by
  have E':=E.mono e12
  refine ⟨by rw [List.length_append,List.length_append,E'.len,List.length_replicate,List.length_replicate],fun i d' q=>?_⟩
  by_cases hi:i<ρ.length
  ·rw [List.getElem?_append_left hi] at q
   obtain ⟨v,h5,h6⟩:=E'.get i d' q
   exact ⟨v,by rw [List.getElem?_append_left (by rw [E'.len];exact hi)];exact h5,h6⟩
  ·rw [List.getElem?_append_right (Nat.not_lt.mp hi),List.getElem?_replicate] at q
   split at q<;>cases q
 have hlen:ρ.length=X.N.length:=by rw [<- E.len];exact I.len
 have stat:∀ {H':Hp}{pl:List (Addr×Obj)},(∀ b∈fp,H' b=none)->pl=[]->∀ b∈fp,FpOk (compCx X scope cl s3.heap.objs.size (hid xs X.N++xs) s3 H3 fp) pl H' b:=fun {H' pl} hn hpl b hb=>by
  obtain ⟨f0,f1,f2',f3',f4,f5⟩:=f3 b hb
  obtain ⟨o,ho⟩:=hob b hb
  refine ⟨hn b hb,Nat.ne_of_lt (Heap.lt_size ho),fun z=>?_,.inl hb,fun y c h=>f4 y c (O.sub y c h),fun p hp=>?_⟩
  ·rcases List.mem_cons.mp (I3.stkSub b z) with z|z
   ·exact f1 z
   ·exact f2' z
  ·subst hpl
   exact absurd (show p∈([]:List (Addr×Obj)) from hp) (by simp)
 have loop:∀ s4:Shared,(∃ tk,s4 = { s3 with heap:=h₁,toks:=tk })->
   codeAny (model X.prog X.w) X.A (.compLoop (.ListComp elt [⟨tg,iter,ifs,0⟩] scope pos) 0 (.ref it) (.ref s2.heap.objs.size) (compEnvC scope cl s3.heap.objs.size X.env))
    (compPost (model X.prog X.w) X.A X.xe use QQ (.ref s2.heap.objs.size) s3.heap.objs.size) s4:=by
  rintro s4 ⟨tk,rfl⟩
  have I4:=O.inv (tk:=tk) I3 f3 hob hns₁ hk1
  refine compLoop_own (fun n s'=>∃ i σ' H' π' μi o,Inv (compCx X scope cl s3.heap.objs.size (hid xs X.N++xs) s3 H3 fp) [] σ' H' s'/\tn i s'.heap/\(∀ b∈fp,H' b=none)/\Ext π3 (μ1++[C.lst []]).length H3 π' μi.length H'/\Rp X.K π' H' μi /\
   En X.K π' μi.length H' σ' (ρ++o)/\o.length=xs.length/\goCompG src bd mc me ρ μ1.length n i μi=some μ') ?_ nt
   ⟨0,_,H3,π3,μ1++[C.lst []],List.replicate xs.length none,I4,T.keep 0 _ _ st3 fun b hb o e=>hk1 b o e,fun b hb=>(f3 b hb).1,.refl,R2,E3,List.length_replicate,h3⟩
  rintro n s5 ⟨i,σ5,H5,π5,μ5,o5,I5,st5,fr5,e5,R5,E5,l5,g5⟩
  cases n with
  | zero=>cases g5
  | succ n=>
   obtain ⟨o,h6,h7⟩:=Option.bind_eq_some_iff.mp g5
   cases o with
   | none=>
    cases h7
    have stop:=W.stop π5 _ H5 i (e2.trans e5) R5 h6
    refine wpAny_mono (T.done (compCx X scope cl s3.heap.objs.size (hid xs X.N++xs) s3 H3 fp) rfl rfl rfl hcalm i [] s5 σ5 H5 (fun _ _=>False) I5 (stat fr5 rfl) st5 stop) (fun r s6 ⟨hr,I6⟩=>?_) fun _ _ z=>z
    subst hr
    obtain ⟨m6,hn6,_⟩:=id I6.loc
    have hp:π5 μ1.length=s2.heap.objs.size:=by rw [e5.pi μ1.length (by simp),q2]
    refine fin s2.heap.objs.size s3.heap.objs.size π5 H5 s6 (e12.trans e5) R5 ?_ ⟨m6,hn6⟩ I3.sz (Ne.symm (Nat.ne_of_lt I3.lt)) I6.free (fun y c hc z=>?_) (fun q hq z=>?_) fun h' hh=>CompOk.back I3 f3 I6 hh
    ·rw [<- hp]
     exact .loc (Nat.lt_of_lt_of_le (by simp) e5.le)
    ·obtain ⟨v,o,ho,_⟩:=I3.cell y c hc
     exact Nat.ne_of_lt (Heap.lt_size ho) z
    ·exact Nat.ne_of_lt (Heap.lt_size (I3.pin q hq).1) z
   | some d=>
    obtain ⟨z,hz,h7⟩:=Option.bind_eq_some_iff.mp h7
    obtain ⟨⟨b,μ6⟩,h8,h9⟩:=Option.bind_eq_some_iff.mp h7
    obtain ⟨g1,g2⟩:=W.go π5 μ5 H5 i d (e2.trans e5) R5 h6
    refine wpAny_mono (T.item (compCx X scope cl s3.heap.objs.size (hid xs X.N++xs) s3 H3 fp) rfl rfl rfl hcalm i [] s5 σ5 H5 (fun _ _=>False) I5 (stat fr5 rfl) st5 g1) (fun r s6 ⟨u,hr,h10⟩=>?_) fun _ _ z=>z
    subst hr
    refine wpAny_mono h10 (fun _ s7 ⟨v,H7,I7,r7,y7,st7,fr7⟩=>?_) fun _ _ z=>z
    obtain ⟨e7,R7,hd⟩:=g2 v H7 y7
    have I7':=I7.pinned (stat fr7 rfl) (T.obj _ _ st7)
    have e5:=e5.trans e7
    refine wpAny_mono (hg _ _ _ _ _ s7 σ5 H7 v u (fun σ' H'=>En X.K π5 μ5.length H7 σ' (ρ++z)/\H'=H7) I7' r7
     ⟨π5,ρ++List.replicate xs.length none,μ5,d,ρ++z,R7,en_none (E5.mono e7) l5,hd,(by
      show (bd d μ5).map (fun x=>(ρ++List.replicate xs.length none).take X.N.length++x)=_
      rw [hz,<- hlen,List.take_left]
      rfl),fun σ' E'=>⟨E',rfl⟩⟩) (fun _ s8 ⟨σ8,H8,I8,E8,z2⟩=>?_) fun _ _ z=>z
    subst z2
    have again:∀ {s9:Shared}{H9:Hp}{π9:Nat->Addr}{μ9:Hm},Inv (compCx X scope cl s3.heap.objs.size (hid xs X.N++xs) s3 H3 fp) ([]++pinsAt fp s7.heap) σ8 H9 s9->Ext π3 (μ1++[C.lst []]).length H3 π9 μ9.length H9->Rp X.K π9 H9 μ9->
      En X.K π9 μ9.length H9 σ8 (ρ++z)->goCompG src bd mc me ρ μ1.length n (i+1) μ9=some μ'->
      ∃ m,m<n+1/\∃ i σ' H' π' μi o,Inv (compCx X scope cl s3.heap.objs.size (hid xs X.N++xs) s3 H3 fp) [] σ' H' s9/\tn i s9.heap/\(∀ b∈fp,H' b=none)/\Ext π3 (μ1++[C.lst []]).length H3 π' μi.length H'/\Rp X.K π' H' μi /\
       En X.K π' μi.length H' σ' (ρ++o)/\o.length=xs.length/\goCompG src bd mc me ρ μ1.length m i μi=some μ':=fun {s9 H9 π9 μ9} I9 e9 R9 E9 g9=>by
     refine ⟨n,Nat.lt_succ_self _,i+1,_,H9,π9,μ9,z,I9.unpinned,T.keep _ _ _ st7 fun b hb o e=>(I9.pin (b,o) (List.mem_append_right _ (List.mem_append_right _ (mem_pinsAt hb e)))).1,fun b hb=>?_,e9,R9,E9,hb' _ _ _ hz,g9⟩
     obtain ⟨o,e,_⟩:=T.obj _ _ st7 b hb
     exact (I9.pin (b,o) (List.mem_append_right _ (List.mem_append_right _ (mem_pinsAt hb e)))).2.1
    refine wpAny_mono (hc _ _ _ _ _ s8 _ H8 (fun b' H'=>∃ π9,b'=b/\Ext π5 μ5.length H8 π9 μ6.length H'/\Rp X.K π9 H' μ6) I8 ⟨π5,_,μ5,b,μ6,R7,E8,h8,fun π9 H9 e9 R9=>⟨π9,rfl,e9,R9⟩⟩) (fun ok s9 ⟨H9,I9,π9,hb,e9,R9⟩=>?_) fun _ _ z=>z
    subst hb
    cases ok with
    | false=>
     rw [if_neg Bool.false_ne_true]
     exact again I9 (e5.trans e9) R9 (E8.mono e9) h9
    | true=>
     rw [if_pos rfl]
     obtain ⟨⟨dy,μ7⟩,h11,h12⟩:=Option.bind_eq_some_iff.mp h9
     obtain ⟨μ8,h13,h14⟩:=Option.bind_eq_some_iff.mp h12
     refine wpAny_mono (he _ _ _ _ _ s9 _ H9 (fun y H'=>∃ π10,Ext π9 μ6.length H9 π10 μ7.length H'/\Rp X.K π10 H' μ7/\IsD X.K π10 μ7.length H' y dy) I9 ⟨π9,_,μ6,dy,μ7,R9,E8.mono e9,h11,fun π10 y H10 e10 R10 i10=>⟨π10,e10,R10,i10⟩⟩)
      (fun u' s10 ⟨y,H10,I10,ry,π10,e10,R10,i10⟩=>?_) fun _ _ z=>z
     unfold appD at h13
     split at h13
     ·rename_i zs hz
      split at h13
      ·rename_i hl
       cases h13
       obtain ⟨vs,h15,h16⟩:=R10.lst _ zs hz
       have eall:=(e5.trans e9).trans e10
       have hp:π10 μ1.length=s2.heap.objs.size:=by rw [eall.pi μ1.length (by simp),q2]
       obtain ⟨e11,R11⟩:=R10.put (a:=μ1.length) (c:=.lst (zs++[dy])) (o:=.lst (vs++[y])) (List.getElem?_eq_some_iff.mp hz).1 h15 (.inl ⟨vs,rfl⟩) (h16.append (.cons i10 .nil))
       rw [hp] at h15 e11 R11
       refine wpAny_mono (mt_append (X:=compCx X scope cl s3.heap.objs.size (hid xs X.N++xs) s3 H3 fp) _ s10 _ H10 (.ref s2.heap.objs.size) [y] (.ref s2.heap.objs.size) [u'] (fun _ H'=>H'=upd H10 s2.heap.objs.size (.lst (vs++[y]))) I10 rfl (.cons ry .nil)
        ⟨s2.heap.objs.size,vs,y,rfl,rfl,h15,by rw [h16.length];exact hl,rfl⟩) (fun _ s11 ⟨_,H11,I11,_,z⟩=>?_) fun _ _ z=>z
       subst z
       exact again I11 (eall.trans e11) R11 ((E8.mono (e9.trans e10)).mono e11) h14
      ·cases h13
     ·cases h13
 have l4:=loop { s3 with heap:=h₁,toks:=s2.toks+([]:List (Str×Value)).length } ⟨_,rfl⟩
 have hst4:tn 0 h₁:=T.keep 0 _ _ st3 fun b hb o e=>hk1 b o e
 subst hs3
 exact codeAny_compStart_list l4 (T.self _ 0 _ _ _ hst4 l4)
theorem pm_compI (O:CompOk X scope cl xs)(hcalm:X.calm=true)(hi:PI X tg iter (tMI X.K mi))(hb':∀ d μ z,bd d μ=some z->z.length=xs.length)(hg:∀ C s₀ H₀ fp,PG (compCx X scope cl C (hid xs X.N++xs) s₀ H₀ fp) tg (tMG X.K (gB X.N.length bd)))
  (hc:∀ C s₀ H₀ fp,PIfs (compCx X scope cl C (hid xs X.N++xs) s₀ H₀ fp) ifs mc)(he:∀ C s₀ H₀ fp,PE (compCx X scope cl C (hid xs X.N++xs) s₀ H₀ fp) elt (tM X.K me))
  (hs:∀ x,foldedSetIterable iter X.env x=pure x):PE X (.ListComp elt [⟨tg,iter,ifs,0⟩] scope pos) (tM X.K (mCompG bd mi mc me)):=by
 intro pins s σ H Q I hw
 obtain ⟨π,ρ,μ,d,μ',R,E,hm,k⟩:=hw
 rw [eval_ListComp]
 refine comp_core (use:=none) O hcalm hi hb' hg hc he hs I R E hm fun p C π' H' s' e1 R1 i1 hns hsz hne hfree hcel hpin back=>?_
 obtain ⟨m,hn⟩:=hns
 exact ⟨m,hn,fun h' sb=>⟨.ref p,H',back h' (fun b o hb e=>(sb.2 b hb).trans e),rfl,k π' _ H' e1 R1 i1⟩⟩
theorem pms_compSet {i:Nat}{y:Str}{py spos:Pos}(O:CompOk X scope cl xs)(hN:X.N.Nodup)(hcalm:X.calm=true)(hi:PI X tg iter (tMI X.K mi))(hb':∀ d μ z,bd d μ=some z->z.length=xs.length)(hg:∀ C s₀ H₀ fp,PG (compCx X scope cl C (hid xs X.N++xs) s₀ H₀ fp) tg (tMG X.K (gB X.N.length bd)))
  (hc:∀ C s₀ H₀ fp,PIfs (compCx X scope cl C (hid xs X.N++xs) s₀ H₀ fp) ifs mc)(he:∀ C s₀ H₀ fp,PE (compCx X scope cl C (hid xs X.N++xs) s₀ H₀ fp) elt (tM X.K me))
  (hs:∀ x,foldedSetIterable iter X.env x=pure x)(hy:X.N[i]? = some y)(hl:X.env.scope.names.lookup y=some .local)
  (hsw:swapsWith (.ListComp elt [⟨tg,iter,ifs,0⟩] scope pos) (some (.Name y py)) spos.line X.env=pure true) :
  PS X (.Assign [.Name y py] (.ListComp elt [⟨tg,iter,ifs,0⟩] scope pos) spos) (tMS X.K (mSet i (mCompG bd mi mc me))):=by
 intro pins s σ H EN I hw
 obtain ⟨π,ρ,μ,fl,ρ',μ',R,E,hm,k⟩:=hw
 obtain ⟨⟨d,μ1⟩,h1,hm⟩:=Option.map_eq_some_iff.mp hm
 cases hm
 rw [exec_Assign_Name_used _ _ _ _ hsw]
 refine wpAny_bind (wpAny_standAt ?_)
 refine wpAny_bind (wpAny_bind ?_)
 refine comp_core (use:=some (assign (.Name y py) X.env)) (QQ:=fun _ s'=>wpAny (model X.prog X.w) X.A (pure ()) (fun _ s''=>wpAny (model X.prog X.w) X.A (pure Flow.next) (SP X pins EN) X.xe s'') X.xe s') O hcalm hi hb' hg hc he hs I R E h1 fun p C π' H' s' e1 R1 i1 hns hsz hne hfree hcel hpin back=>?_
 obtain ⟨m,hn⟩:=hns
 have I1:Inv X pins σ H' s':=back s'.heap fun b o _ e=>e
 show wpAny (model X.prog X.w) X.A (assign (.Name y py) X.env (.ref p)) _ X.xe s'
 refine wpAny_assign_Name ?_
 refine store_ok2 I1 hN hy (.inl hl) (show RelV (.ref p) (.ref p) from rfl) (fun s2 I2 ⟨a,sb,ha⟩=>?_) (.inr hl)
 have hCa:C≠a:=by
  rcases ha with rfl|ha
  ·exact hne
  ·exact Ne.symm (hcel _ _ ha)
 refine ⟨m,hn.sameBut sb hCa,fun h' sb'=>wpAny_pure (wpAny_pure ?_)⟩
 refine ⟨σ.set i (some (.ref p)),H',I2.turned (t':=s2.toks) (fun b o hb e=>(sb'.2 b hb).trans e) hfree hne (.inr hsz) hcel hpin,?_⟩
 exact k π' _ H' e1 R1 ((E.mono e1).set i1 i)
end
end L3
namespace L3
open PySem L2
noncomputable def mBad:ME:=fun _ _=>none
noncomputable def mBadT:MT:=fun _ _=>none
noncomputable def mBadS:MS:=fun _ _=>none
section
variable {X:Cx}{e a b c o:Expr}{m m1 m2 ma mb mc:ME}{pos:Pos}{mt mu:MT}{rest es:List Expr}{ms:MA}{n:Nat}
theorem e_bad:QE X e mBad:=⟨fun pins s σ H Q I h=>by
 obtain ⟨π,ρ,μ,d,μ',R,E,hm,k⟩:=h
 cases hm⟩
theorem t_bad:QT X e mBadT:=⟨fun pins s σ H Q I h=>by
 obtain ⟨π,ρ,μ,d,μ',R,E,hm,k⟩:=h
 cases hm⟩
theorem w_bad:QW X e mBadT:=⟨fun wh pins s σ H Q I h=>by
 obtain ⟨π,ρ,μ,d,μ',R,E,hm,k⟩:=h
 cases hm⟩
theorem s_bad {st:Stmt}:QS X st mBadS:=⟨fun pins s σ H D I h=>by
 obtain ⟨π,ρ,μ,fl,ρ',μ',R,E,hm,k⟩:=h
 cases hm⟩
theorem g_bad {g:MG}(hg:∀ d ρ μ,g d ρ μ=none):QG X e g:=⟨fun pins s σ H v u Q I r h=>by
 obtain ⟨π,ρ,μ,d,ρ',R,E,hd,hm,k⟩:=h
 rw [hg] at hm
 cases hm⟩
theorem e_alt (h1:QE X e m1)(h2:QE X e m2)(h:∀ ρ μ r,m ρ μ=some r->m1 ρ μ=some r\/m2 ρ μ=some r):QE X e m:=⟨fun pins s σ H Q I q=>by
 obtain ⟨π,ρ,μ,d,μ',R,E,hm,k⟩:=q
 rcases h ρ μ _ hm with z|z
 ·exact h1.h pins s σ H Q I ⟨π,ρ,μ,d,μ',R,E,z,k⟩
 ·exact h2.h pins s σ H Q I ⟨π,ρ,μ,d,μ',R,E,z,k⟩⟩
theorem t_alt {m m1 m2:MT}(h1:QT X e m1)(h2:QT X e m2)(h:∀ ρ μ r,m ρ μ=some r->m1 ρ μ=some r\/m2 ρ μ=some r):QT X e m:=⟨fun pins s σ H Q I q=>by
 obtain ⟨π,ρ,μ,d,μ',R,E,hm,k⟩:=q
 rcases h ρ μ _ hm with z|z
 ·exact h1.h pins s σ H Q I ⟨π,ρ,μ,d,μ',R,E,z,k⟩
 ·exact h2.h pins s σ H Q I ⟨π,ρ,μ,d,μ',R,E,z,k⟩⟩
theorem mOp_alt {f f1 f2:D->D->Hm->Option (D×Hm)}(h:∀ x y μ r,f x y μ=some r->f1 x y μ=some r\/f2 x y μ=some r) :
  ∀ ρ μ r,mOp f ma mb ρ μ=some r->mOp f1 ma mb ρ μ=some r\/mOp f2 ma mb ρ μ=some r:=by
 intro ρ μ r hm
 obtain ⟨p,h1,hm⟩:=Option.bind_eq_some_iff.mp hm
 obtain ⟨q,h2,hm⟩:=Option.bind_eq_some_iff.mp hm
 rcases h _ _ _ _ hm with z|z
 ·exact .inl (Option.bind_eq_some_iff.mpr ⟨p,h1,Option.bind_eq_some_iff.mpr ⟨q,h2,z⟩⟩)
 ·exact .inr (Option.bind_eq_some_iff.mpr ⟨p,h1,Option.bind_eq_some_iff.mpr ⟨q,h2,z⟩⟩)
theorem mTest_alt (h:∀ ρ μ r,m ρ μ=some r->m1 ρ μ=some r\/m2 ρ μ=some r):∀ ρ μ r,mTest m ρ μ=some r->mTest m1 ρ μ=some r\/mTest m2 ρ μ=some r:=by
 intro ρ μ r hm
 obtain ⟨p,h1,hm⟩:=Option.bind_eq_some_iff.mp hm
 rcases h _ _ _ h1 with z|z
 ·exact .inl (Option.bind_eq_some_iff.mpr ⟨p,z,hm⟩)
 ·exact .inr (Option.bind_eq_some_iff.mpr ⟨p,z,hm⟩)
noncomputable def intsD:List D->Option (List Int)
 | []=>some []
 | .int i::r=>(intsD r).map (i::·)
 | _=>none
noncomputable def itD:D->D->Hm->Option (D×Hm):=ixD
theorem e_item {k:Nat}(hr:Room k X.A)(ha:QE X a ma)(hb:QE X b mb)(h:noSlice b=true):QE X (.Subscript a b pos) (mOp itD ma mb):=e_ix ha hb h
structure TabOk (X:Cx)(x:Str)(kvs:List (Key×D)):Prop where
 ex:∃ (p:Addr)(vs:List (Key×V))(ws:List (Key×Value)),X.mg x=some (.ref p)/\(∀ h:Heap,X.K.In h->h.DictOf (mixKind X.prog X.w) p ws)/\KV vs ws/\∀ π n H,IsKs X.K π n H vs kvs
theorem k_free {pins:List (Addr×Obj)}{σ:St}{H:Hp}{s:Shared}(I:Inv X pins σ H s){p:Addr}{ob:Obj}(h:X.K.lookup p=some ob):H p=none:=(I.bs p ob (I.mod.kin p ob h)).2
theorem rp_cell {K:PySem.W.Frag}{π:Nat->Addr}{H:Hp}{μ:Hm}(R:Rp K π H μ){a':Nat}(ha:a'<μ.length):(∃ vs,H (π a')=some (.lst vs))\/(∃ vs,H (π a')=some (.dK vs))\/(∃ φ,H (π a')=some (.ext φ))\/∃ ob φ,H (π a')=some (.frz ob (.ext φ)):=by
 cases q:μ[a']? with
 | none=>exact absurd (List.getElem?_eq_none_iff.mp q) (by omega)
 | some cl=>
  cases cl with
  | lst xs=>obtain ⟨vs,h,_⟩:=R.lst a' xs q;exact .inl ⟨vs,h⟩
  | dK xs=>obtain ⟨vs,h,_⟩:=R.dK a' xs q;exact .inr (.inl ⟨vs,h⟩)
  | st xs=>obtain ⟨vs,h,_⟩:=R.st a' xs q;exact .inr (.inr (.inl ⟨_,h⟩))
section
variable {pins:List (Addr×Obj)}{σ:St}{H:Hp}{s:Shared}{π:Nat->Addr}{μ:Hm}
theorem tup_not_cell (I:Inv X pins σ H s)(R:Rp X.K π H μ){a':Nat}(ha:a'<μ.length){vs:List V}(h:SqT X.K H (π a') vs):False:=by
 have hc:=rp_cell R ha
 rcases h with h|h
 ·rcases h with h|⟨ob,h⟩<;>rcases hc with ⟨ws,z⟩|⟨ws,z⟩|⟨ws,z⟩|⟨_,ws,z⟩<;>(rw [h] at z;cases z)
 ·obtain ⟨ob,its,n,hk,_⟩:=h
  have:=k_free I hk
  rcases hc with ⟨ws,z⟩|⟨ws,z⟩|⟨ws,z⟩|⟨_,ws,z⟩<;>(rw [this] at z;cases z)
theorem rol_not_cell (I:Inv X pins σ H s)(R:Rp X.K π H μ){a':Nat}(ha:a'<μ.length){vs:List V}(h:RoL X.K H (π a') vs):False:=by
 have hc:=rp_cell R ha
 rcases h with ⟨ob,h⟩|h
 ·rcases hc with ⟨ws,z⟩|⟨ws,z⟩|⟨ws,z⟩|⟨_,ws,z⟩<;>(rw [h] at z;cases z)
 ·obtain ⟨ob,its,n,hk,_⟩:=h
  have:=k_free I hk
  rcases hc with ⟨ws,z⟩|⟨ws,z⟩|⟨ws,z⟩|⟨_,ws,z⟩<;>(rw [this] at z;cases z)
theorem tup_not_rol (I:Inv X pins σ H s){p:Addr}{vs ws:List V}(h:SqT X.K H p vs)(h':RoL X.K H p ws):False:=by
 obtain ⟨its,_,t,_⟩:=I.tuple h
 obtain ⟨its',_,l,_⟩:=I.list h'.sq
 exact absurd rfl (SeqAt.ne_of_list_tuple l.isList t)
mutual
theorem isD_uniq (I:Inv X pins σ H s)(R:Rp X.K π H μ){v:V}{d d':D}:IsD X.K π μ.length H v d->IsD X.K π μ.length H v d'->d=d'
 | .non,h'=>by cases h';rfl
 | .bl _,h'=>by cases h';rfl
 | .int _,h'=>by cases h';rfl
 | .str _,h'=>by cases h';rfl
 | .ty _,h'=>by cases h';rfl
 | .tup h t,h'=>by
  cases h' with
  | tup h2 t2=>
   have:=I.tuple_inj h h2
   subst this
   rw [isDs_uniq I R t t2]
  | rol h2 t2=>exact (tup_not_rol I h h2).elim
  | loc h2=>exact (tup_not_cell I R h2 h).elim
 | .rol h t,h'=>by
  cases h' with
  | tup h2 t2=>exact (tup_not_rol I h2 h).elim
  | rol h2 t2=>
   have:=I.list_inj h.sq h2.sq
   subst this
   rw [isDs_uniq I R t t2]
  | loc h2=>exact (rol_not_cell I R h2 h).elim
 | .loc (a:=a1) ha,h'=>by
  generalize hz:V.ref (π a1)=z at h'
  cases h' with
  | tup h2 t2=>cases hz;exact (tup_not_cell I R ha h2).elim
  | rol h2 t2=>cases hz;exact (rol_not_cell I R ha h2).elim
  | loc h2=>
   have:=R.inj _ _ ha h2 (V.ref.inj hz)
   rw [this]
  | _=>cases hz
theorem isDs_uniq (I:Inv X pins σ H s)(R:Rp X.K π H μ){vs:List V}{ds ds':List D}:IsDs X.K π μ.length H vs ds->IsDs X.K π μ.length H vs ds'->ds=ds'
 | .nil,h'=>by cases h';rfl
 | .cons h t,h'=>by
  cases h' with
  | cons h2 t2=>rw [isD_uniq I R h h2,isDs_uniq I R t t2]
end
end
noncomputable def isNon (neg:Bool):D->D->Hm->Option (D×Hm)
 | x,.non,μ=>some (.bl (match x with|.non=>!neg|_=>neg),μ)
 | _,_,_=>none
theorem isNon_ok {K:PySem.W.Frag}:OpD K (isNon false) (fun x y H Q=>y=.non/\Q (.bl (decide (x=.non))) H):=by
 intro π H μ x y d μ' vx vy Q R ix iy hm k
 unfold isNon at hm
 split at hm
 ·cases hm
  cases iy
  refine ⟨rfl,?_⟩
  cases ix<;>exact k π _ H .refl R (.bl _)
 ·cases hm
theorem isNotNon_ok {K:PySem.W.Frag}:OpD K (isNon true) (fun x y H Q=>y=.non/\Q (.bl (!decide (x=.non))) H):=by
 intro π H μ x y d μ' vx vy Q R ix iy hm k
 unfold isNon at hm
 split at hm
 ·cases hm
  cases iy
  refine ⟨rfl,?_⟩
  cases ix<;>exact k π _ H .refl R (.bl _)
 ·cases hm
theorem e_is (ha:QE X a ma)(hb:QE X b mb):QE X (.Compare a [.Is] [b] pos) (mOp (isNon false) ma mb):=⟨pm_cmp op_isN isNon_ok ha.h hb.h (nomark _)⟩
theorem e_isnot (ha:QE X a ma)(hb:QE X b mb):QE X (.Compare a [.IsNot] [b] pos) (mOp (isNon true) ma mb):=⟨pm_cmp op_notN isNotNon_ok ha.h hb.h (nomark _)⟩
theorem t_is (ha:QE X a ma)(hb:QE X b mb):QT X (.Compare a [.Is] [b] pos) (mTest (mOp (isNon false) ma mb)):=⟨pmt_cmp op_isN isNon_ok ha.h hb.h (nomark _)⟩
theorem t_isnot (ha:QE X a ma)(hb:QE X b mb):QT X (.Compare a [.IsNot] [b] pos) (mTest (mOp (isNon true) ma mb)):=⟨pmt_cmp op_notN isNotNon_ok ha.h hb.h (nomark _)⟩
end
end L3
namespace L3
open PySem L2
section
variable {X:Cx}{e a b c o:Expr}{m m1 m2 ma mb mc mo:ME}{pos apos cpos:Pos}{mt mu:MT}{rest es:List Expr}{ms:MA}{n:Nat}
noncomputable def isLst (μ:Hm):D->Bool
 | .rol _=>true
 | .loc a=>match μ[a]? with|some (.lst _)=>true|_=>false
 | _=>false
noncomputable def mMeth (f:D->List D->Hm->Option (D×Hm))(mo:ME)(ms:MA):ME:=fun ρ μ=>(mo ρ μ).bind fun p=>match isLst p.2 p.1 with
 | true=>(ms ρ p.2).bind fun q=>f p.1 q.1 q.2
 | false=>none
noncomputable def MtD (K:PySem.W.Frag)(f:D->List D->Hm->Option (D×Hm))(r:V->List V->Hp->VK->Prop):Prop:=
 ∀ π H μ x xs d μ' v vs Q,Rp K π H μ->IsD K π μ.length H v x->IsDs K π μ.length H vs xs->f x xs μ=some (d,μ')->KC K Q π μ.length H d μ'->r v vs H Q
theorem tyV_lst {K:PySem.W.Frag}{π:Nat->Addr}{H:Hp}{μ:Hm}{v:V}{x:D}(R:Rp K π H μ)(h:IsD K π μ.length H v x)(e:isLst μ x=true):tyV K "list" v H:=by
 cases h with
 | rol h t=>exact .inl ⟨rfl,_,h.sq⟩
 | @loc a ha=>
  simp only [isLst] at e
  split at e
  ·rename_i xs hx
   obtain ⟨vs,h1,_⟩:=R.lst a xs hx
   exact .inl ⟨rfl,vs,.of h1⟩
  ·cases e
 | _=>cases e
theorem mMeth_read {K:PySem.W.Frag}{f:D->List D->Hm->Option (D×Hm)}{r:V->List V->Hp->VK->Prop}(hf:MtD K f r):∀ σ H Q,tM K (mMeth f mo ms) σ H Q->tBM K "list" r (tM K mo) (tMA K ms) σ H Q:=by
 rintro σ H Q ⟨π,ρ,μ,d,μ',R,E,hm,k⟩
 obtain ⟨⟨x,μ1⟩,h1,hm⟩:=Option.bind_eq_some_iff.mp hm
 dsimp only at hm
 split at hm
 ·rename_i hl
  obtain ⟨⟨xs,μ2⟩,h2,hm⟩:=Option.bind_eq_some_iff.mp hm
  refine ⟨π,ρ,μ,x,μ1,R,E,h1,fun π1 v1 H1 e1 R1 i1=>⟨tyV_lst R1 i1 hl,π1,ρ,μ1,xs,μ2,R1,E.mono e1,h2,fun π2 vs H2 e2 R2 i2=>?_⟩⟩
  exact hf π2 H2 μ2 x xs d μ' v1 vs Q R2 (i1.mono e2) i2 hm (k.after (e1.trans e2))
 ·cases hm
noncomputable def noSup:Expr->Bool
 | .Call (.Name _ _) [] [] _=>false
 | _=>true
theorem base_of {o:Expr}{attr:Str}{env:Env}{whole:Sem Value}(h:noSup o=true):attributeBase o attr env whole=whole:=by
 cases o with
 | Call f args kws p=>
  cases f with
  | Name id q=>
   cases args with
   | nil=>
    cases kws with
    | nil=>cases h
    | cons _ _=>rfl
   | cons _ _=>rfl
  | _=>rfl
 | _=>rfl
theorem few_of {e:Expr}{es:List Expr}{env:Env}{cpos:Pos}(h:(e::es).all noStar=true)(hn:(e::es).length<30) :
  ((backTo cpos (starEach (e::es) env)).all (fun x=>!x.1)&&(backToKw cpos (keywordEach [] env)).all (fun x=>x.1.isSome)
   && decide ((e::es).length+([]:List Keyword).length+(if ([]:List Keyword).isEmpty then 0 else 1)<30))=true:=by
 have h1:(backTo cpos (starEach (e::es) env)).all (fun x=>!x.1)=true:=by
  have:=star_any (pos:=cpos) (env:=env) h
  rw [List.all_eq_not_any_not]
  simpa using this
 rw [h1]
 have h2:(e::es).length+([]:List Keyword).length+(if ([]:List Keyword).isEmpty then 0 else 1)<30:=by
  show (e::es).length+0+0<30
  omega
 rw [decide_eq_true h2]
 rfl
theorem e_meth {f:D->List D->Hm->Option (D×Hm)}{r:V->List V->Hp->VK->Prop}{name:Str}{id:String}(slot:Slot "list" name id) (hty:typeOf (.builtin id)=pure (.type "method_descriptor")) (hm:MtM X id r)(hf:MtD X.K f r)
  (ho:QE X o mo)(ha:QA X (e::es) ms n)(hs:noSup o=true)(hl:(apos.endLine == cpos.line)=true)(hn:(e::es).length<30):QE X (.Call (.Attribute o name apos) (e::es) [] cpos) (mMeth f mo ms):=by
 have hst:=ha.s
 have hst':=hst
 rw [List.all_cons,Bool.and_eq_true] at hst'
 exact ⟨pm_weak (pe_bm PySem.F.plainAttrs_list slot hty hm ho.h ha.h (base_of hs) (few_of hst hn) hl (star_cons hst'.1) (star_any hst'.2)) (mMeth_read hf)⟩
noncomputable def appendM:D->List D->Hm->Option (D×Hm)
 | .loc a,[y],μ=>(appD μ a y).map fun μ'=>(.non,μ')
 | _,_,_=>none
theorem append_ok {K:PySem.W.Frag}:MtD K appendM rAppend:=by
 intro π H μ x xs d μ' v vs Q R ix ixs hm k
 unfold appendM at hm
 split at hm
 ·rename_i a y
  obtain ⟨μ1,h1,hm⟩:=Option.map_eq_some_iff.mp hm
  cases hm
  unfold appD at h1
  split at h1
  ·rename_i zs hz
   split at h1
   ·rename_i hl
    cases h1
    obtain ⟨ws,h2,h3⟩:=R.lst a zs hz
    cases ix
    cases ixs with
    | cons iy it=>
     cases it
     obtain ⟨e1,R1⟩:=R.put (a:=a) (c:=.lst (zs++[y])) (o:=.lst (ws++[_])) (List.getElem?_eq_some_iff.mp hz).1 h2 (.inl ⟨ws,rfl⟩) (h3.append (.cons iy .nil))
     exact ⟨_,ws,_,rfl,rfl,h2,by rw [h3.length];exact hl,k π _ _ e1 R1 .non⟩
   ·cases h1
  ·cases h1
 ·cases hm
noncomputable def truD (μ:Hm):D->Option Bool
 | .non=>some false
 | .bl b=>some b
 | .int i=>some (i != 0)
 | .str z=>if z.length<=sizeLine then some ((z.length:Int) != 0) else none
 | .tup xs=>some (!xs.isEmpty)
 | .rol xs=>some (!xs.isEmpty)
 | .loc a=>match μ[a]? with|some (.lst xs)=>some (!xs.isEmpty)|some (.dK kvs)=>some (!kvs.isEmpty)|_=>none
 | .ty _=>none
theorem isEmpty_len {α β:Type}{xs:List α}{ys:List β}(h:xs.length=ys.length):xs.isEmpty=ys.isEmpty:=by
 cases xs<;>cases ys<;>first|rfl|cases h
theorem truD_ok {K:PySem.W.Frag}{π:Nat->Addr}{H:Hp}{μ:Hm}{v:V}{x:D}{b:Bool}(R:Rp K π H μ)(h:IsD K π μ.length H v x)(e:truD μ x=some b):TruV K v H b:=by
 cases h with
 | non=>cases e;rfl
 | bl c=>cases e;rfl
 | int i=>cases e;rfl
 | str z=>
  simp only [truD] at e
  split at e
  ·rename_i hl;cases e;exact ⟨hl,rfl⟩
  ·cases e
 | tup h t=>cases e;exact .inr (.inl ⟨_,h,by rw [isEmpty_len t.length]⟩)
 | rol h t=>cases e;exact .inl ⟨_,h.sq,by rw [isEmpty_len t.length]⟩
 | @loc a ha=>
  simp only [truD] at e
  split at e
  ·rename_i xs hx
   cases e
   obtain ⟨vs,h1,h2⟩:=R.lst a xs hx
   exact .inl ⟨vs,.of h1,by rw [isEmpty_len h2.length]⟩
  ·rename_i kvs hx
   cases e
   obtain ⟨vs,h1,h2,_⟩:=R.dK a kvs hx
   refine .inr (.inr ⟨vs,h1,?_⟩)
   have:=congrArg List.length h2
   rw [List.length_map,List.length_map] at this
   rw [isEmpty_len this]
  ·cases e
 | ty n=>cases e
noncomputable def mTru (m:ME):MT:=fun ρ μ=>(m ρ μ).bind fun p=>(truD p.2 p.1).map fun b=>(b,p.2)
theorem t_tru (h:QE X e m)(he:plainT e=true):QT X e (mTru m):=⟨pmt_weak (pt_truth h.h (plain_t he)) (by
 rintro σ H Q ⟨π,ρ,μ,b,μ',R,E,hm,k⟩
 obtain ⟨⟨x,μ1⟩,h1,hm⟩:=Option.bind_eq_some_iff.mp hm
 obtain ⟨b',h2,hm⟩:=Option.map_eq_some_iff.mp hm
 cases hm
 exact ⟨π,ρ,μ,x,_,R,E,h1,fun π1 v1 H1 e1 R1 i1=>⟨_,truD_ok R1 i1 h2,k π1 H1 e1 R1⟩⟩)⟩
theorem e_call0 {k:Nat}{f:Addr}{fd:FuncData}{ps:List Str}{fm:MF}{x:Str}{p:Pos}(F:FnOk X.prog X.w X.K X.mg X.base CX0 k f fd ps (spM X.K 0 fm))(hr:Room k X.A)(hm:X.mg x=some (.ref f))
  (hk:PySem.W.keepIn X.K (.ref f)=true)(hb:Binds X.K fd ps [])(hg:Gl X x)(hdb:(x == ("__debug__":Str))=false):QE X (.Call (.Name x p) [] [] pos) (mCall fm mNil):=
 ⟨pm_weak (pe_call0 F hr hg hm hk hb .nil (E:=E0) pass0 hdb) (by
  rintro σ H Q ⟨π,ρ,μ,d,μ',R,E,hm,k⟩
  obtain ⟨⟨xs,μ1⟩,h1,hm⟩:=Option.bind_eq_some_iff.mp hm
  cases h1
  exact ⟨rfl,π,[],μ,d,μ',R,.nil,hm,k⟩)⟩
noncomputable def goWhile (c:MT)(b:MS):Nat->MS
 | 0,_,_=>none
 | n+1,ρ,μ=>(c ρ μ).bind fun p=>match p.1 with
  | false=>some (.nx,ρ,p.2)
  | true=>(b ρ p.2).bind fun q=>match q.1 with
   | .nx=>goWhile c b n q.2.1 q.2.2
   | .ct=>goWhile c b n q.2.1 q.2.2
   | .bk=>some (.nx,q.2.1,q.2.2)
   | .rt d=>some (.rt d,q.2.1,q.2.2)
noncomputable def mWhile (n:Nat)(c:MT)(b:MS):MS:=goWhile c b n
theorem s_while {body:List Stmt}{mb:MS}(n:Nat)(hc:QT X c mt)(hb:QB X body mb)(hp:PassesOwn (model X.prog X.w) X.A X.env X.xe):QS X (.While c body [] pos) (mWhile n mt mb):=⟨pms_weak (ps_while hp hc.h hb.h) (by
 rintro E σ H ⟨π,ρ,μ,fl,ρ',μ',R,EN,hm,k⟩
 have lift:∀ {π2:Nat->Addr}{n2:Nat}{H2:Hp}(e:Ext π μ.length H π2 n2 H2),FlOk X.K E π2 n2 H2 fl ρ' μ':=fun {π2 n2 H2} e=>by
  cases fl with
  | nx=>exact fun π3 σ3 H3 e3 R3 E3=>k π3 σ3 H3 (e.trans e3) R3 E3
  | bk=>exact fun π3 σ3 H3 e3 R3 E3=>k π3 σ3 H3 (e.trans e3) R3 E3
  | ct=>exact fun π3 σ3 H3 e3 R3 E3=>k π3 σ3 H3 (e.trans e3) R3 E3
  | rt d=>exact KC.after k e
 refine ⟨fun m σ' H'=>∃ π2 μ2 ρ2,Ext π μ.length H π2 μ2.length H'/\Rp X.K π2 H' μ2/\En X.K π2 μ2.length H' σ' ρ2/\goWhile mt mb m ρ2 μ2=some (fl,ρ',μ'),⟨n,π,μ,ρ,.refl,R,EN,hm⟩,?_⟩
 rintro m σ1 H1 ⟨π2,μ2,ρ2,e2,R2,E2,h2⟩
 cases m with
 | zero=>cases h2
 | succ m=>
  obtain ⟨⟨b,μ3⟩,h3,h4⟩:=Option.bind_eq_some_iff.mp h2
  refine ⟨π2,ρ2,μ2,b,μ3,R2,E2,h3,fun π3 H3 e3 R3=>?_⟩
  cases b with
  | false=>
   refine iteF ?_
   cases h4
   exact lift e2 π3 σ1 H3 e3 R3 (E2.mono e3)
  | true=>
   refine iteT ?_
   obtain ⟨⟨f4,ρ4,μ4⟩,h5,h6⟩:=Option.bind_eq_some_iff.mp h4
   refine ⟨fun σ' H'=>∃ π5 ρ5 μ5,Ext π μ.length H π5 μ5.length H'/\Rp X.K π5 H' μ5/\En X.K π5 μ5.length H' σ' ρ5/\goWhile mt mb m ρ5 μ5=some (fl,ρ',μ'),
    fun σ' H' ⟨π5,ρ5,μ5,a1,a2,a3,a4⟩=>⟨m,Nat.lt_succ_self _,π5,μ5,ρ5,a1,a2,a3,a4⟩,π3,ρ2,μ3,f4,ρ4,μ4,R3,E2.mono e3,h5,?_⟩
   cases f4 with
   | nx=>exact fun π5 σ5 H5 e5 R5 E5=>⟨π5,ρ4,μ4,(e2.trans e3).trans e5,R5,E5,h6⟩
   | ct=>exact fun π5 σ5 H5 e5 R5 E5=>⟨π5,ρ4,μ4,(e2.trans e3).trans e5,R5,E5,h6⟩
   | bk=>
    cases h6
    exact fun π5 σ5 H5 e5 R5 E5=>lift (e2.trans e3) π5 σ5 H5 e5 R5 E5
   | rt d'=>
    cases h6
    exact lift (e2.trans e3))⟩
theorem s_retN:QS X (.Return none pos) (mRet (mC .non)):=⟨pms_weak ps_retN (by
 rintro E σ H ⟨π,ρ,μ,fl,ρ',μ',R,EN,hm,k⟩
 cases hm
 exact k π .non H .refl R .non)⟩
end
end L3
namespace L3
open PySem L2
noncomputable def boolsD:List D->Option (List Bool)
 | []=>some []
 | .bl b::r=>(boolsD r).map (b::·)
 | _=>none
noncomputable def allM:MF:=fun ds μ=>match ds with
 | [x]=>(seqD μ x).bind fun xs=>(boolsD xs).map fun bs=>(.bl (bs.all id),μ)
 | _=>none
theorem bools_is {K:PySem.W.Frag}{π:Nat->Addr}{n:Nat}{H:Hp}:∀ {xs:List D}{vs:List V}{bs:List Bool},IsDs K π n H vs xs->boolsD xs=some bs->vs=bs.map V.bl
 | [],_,bs,h,e=>by cases h;cases e;rfl
 | x::xs,vs,bs,h,e=>by
  cases h with
  | cons h t=>
   cases x with
   | bl b=>
    obtain ⟨bs',h1,h2⟩:=Option.map_eq_some_iff.mp e
    subst h2
    cases h
    rw [bools_is t h1]
    rfl
   | _=>cases e
noncomputable def rAllA (K:PySem.W.Frag)(g:List Bool->Bool):List V->Hp->VK->Prop:=fun xs H Q=>∃ p bs,xs=[.ref p]/\(SqL K H p (bs.map V.bl)\/SqT K H p (bs.map V.bl))/\Q (.bl (g bs)) H
theorem allA_ok {K:PySem.W.Frag}{g:List Bool->Bool}{f:MF}(hf:f=fun ds μ=>match ds with|[x]=>(seqD μ x).bind fun xs=>(boolsD xs).map fun bs=>(.bl (g bs),μ)|_=>none):CallD K f (rAllA K g):=by
 subst hf
 intro π H μ xs d μ' vs Q R i hm k
 dsimp only at hm
 split at hm
 ·obtain ⟨ys,h1,hm⟩:=Option.bind_eq_some_iff.mp hm
  obtain ⟨bs,h2,hm⟩:=Option.map_eq_some_iff.mp hm
  cases hm
  cases i with
  | cons i t=>
   cases t
   obtain ⟨p,ws,rfl,q,hd⟩:=seq_of R i h1
   have:=bools_is hd h2
   subst this
   exact ⟨p,bs,rfl,q,k π _ H .refl R (.bl _)⟩
 ·cases hm
theorem range_all {bs:List Bool}{n:Nat}(hn:n=bs.length):(List.range n).all (fun i=>bs.getD i false)=bs.all id:=by
 subst hn
 induction bs with
 | nil=>rfl
 | cons b bs ih=>
  rw [List.length_cons,List.range_succ_eq_map,List.all_cons,List.all_map,List.all_cons,<- ih]
  rfl
section
variable {X:Cx}
theorem truth_bools {prog:Program}{w:World}{A:Around}{bs:List Bool}{its:List Value}(r:Vals (bs.map V.bl) its):TruthOf prog w A (fun i v=>its.toArray[i]? = some v) (fun i=>bs.getD i false):=by
 intro i v s Q E hP hQ
 have hP':its[i]? = some v:=by simpa using hP
 have hi:i<bs.length:=by
  have:=(List.getElem?_eq_some_iff.mp hP').1
  have:=r.length
  rw [List.length_map] at this
  omega
 obtain ⟨u,h1,h2⟩:=r.get (i:=i) (x:=.bl bs[i]) (by rw [List.getElem?_map,List.getElem?_eq_getElem hi];rfl)
 rw [hP'] at h1
 cases h1
 cases h2
 have e:bs.getD i false=bs[i]:=by simp [List.getD,hi]
 dsimp only at hQ
 rw [e] at hQ
 exact wpAny_truthy_bool hQ
theorem call_allA (hc:X.calm=true):CallR X (.builtin "all") (rAllA X.K (·.all id)):=by
 intro pins s σ H xs us Q I r h
 obtain ⟨p,bs,rfl,hq,q⟩:=h
 obtain ⟨u,rfl,ru⟩:=vals1 r
 cases ru
 have hh:X.A.in1.handled=none:=I.ok.hd hc
 rcases hq with hq|hq
 ·obtain ⟨its,rv,pl,hz⟩:=I.list hq
  refine call_all_walk (wpAny_pyIter_list pl.isList ?_)
  have hne:p≠s.heap.objs.size:=by
   obtain ⟨o,ho,_⟩:=pl.isList
   exact Nat.ne_of_lt (Heap.lt_size ho)
  refine ⟨s.heap.objs.size,_,_,_,_,_,fun i=>bs.getD i false,rfl,Walks.list hh _ p hne its.toArray,⟨⟨_,Heap.get?_push_size _ rfl,rfl,rfl⟩,pl.isList.push _⟩,truth_bools rv,fun h' tk kp=>?_⟩
  have hlen:its.toArray.size=bs.length:=by rw [List.size_toArray,<- rv.length,List.length_map]
  refine ⟨.bl _,H,I.kept (t':=tk) fun b o e=>kp b o ?_ (Heap.get?_push_of_some _ e),rfl,?_⟩
  ·intro hb
   have:b=s.heap.objs.size:=by simpa using hb
   exact Nat.ne_of_lt (Heap.lt_size e) this
  ·rw [range_all hlen]
   exact q
 ·obtain ⟨its,rv,pl,hz⟩:=I.tuple hq
  refine call_all_walk (wpAny_pyIter_tuple (show s.heap.IsTuple p its.toArray from pl) ?_)
  have hne:p≠s.heap.objs.size:=by
   obtain ⟨o,ho,_⟩:=pl
   exact Nat.ne_of_lt (Heap.lt_size ho)
  refine ⟨s.heap.objs.size,_,_,_,_,_,fun i=>bs.getD i false,rfl,Walks.tuple hh _ p hne its.toArray,⟨⟨_,Heap.get?_push_size _ rfl,rfl,rfl⟩,PySem.Heap.IsTuple.push pl _⟩,truth_bools rv,fun h' tk kp=>?_⟩
  have hlen:its.toArray.size=bs.length:=by rw [List.size_toArray,<- rv.length,List.length_map]
  refine ⟨.bl _,H,I.kept (t':=tk) fun b o e=>kp b o ?_ (Heap.get?_push_of_some _ e),rfl,?_⟩
  ·intro hb
   have:b=s.heap.objs.size:=by simpa using hb
   exact Nat.ne_of_lt (Heap.lt_size e) this
  ·rw [range_all hlen]
   exact q
end
end L3
namespace L3
open PySem L2
open PyProof.Rows (IntsAre)
open PySem.W (KasT kas_asc kas_desc kas_tail3 kas_descPart kas_count kas_place kas_bin kas_sort kas_rev kas_ask)
noncomputable def InR {α:Type}(n:Nat)(R:α->Prop):KasT α->Prop
 | .ret a=>R a
 | .ask i j k=>i<n/\j<n/\∀ b,InR n R (k b)
theorem InR.mono {α:Type}{n:Nat}{R R':α->Prop}(h:∀ a,R a->R' a):∀ {t:KasT α},InR n R t->InR n R' t
 | .ret a,q=>h a q
 | .ask i j k,q=>⟨q.1,q.2.1,fun b=>InR.mono h (q.2.2 b)⟩
theorem InR.bind {α β:Type}{n:Nat}{R:α->Prop}{R':β->Prop}{f:α->KasT β}(hf:∀ a,R a->InR n R' (f a)):∀ {t:KasT α},InR n R t->InR n R' (t.bind f)
 | .ret a,q=>hf a q
 | .ask i j k,q=>⟨q.1,q.2.1,fun b=>InR.bind hf (q.2.2 b)⟩
section
variable {n:Nat}
noncomputable def IxOk (n:Nat)(p:Array Nat):Prop:=p.Perm (List.range n).toArray
theorem IxOk.lt {p:Array Nat}(h:IxOk n p)(h0:0<n)(i:Nat):p.getD i 0<n:=by
 by_cases hi:i<p.size
 ·have e:p.getD i 0=p[i]:=by simp [Array.getD,hi]
  rw [e]
  have hm:p[i]∈p:=Array.getElem_mem hi
  have hm2:p[i]∈(List.range n).toArray:=h.mem_iff.mp hm
  simpa using hm2
 ·have e:p.getD i 0=0:=by simp [Array.getD,hi]
  rw [e];exact h0
end
section
variable {X:Cx}{pins:List (Addr×Obj)}{σ:St}{H:Hp}{s:Shared}
end
noncomputable abbrev TupsV (K:PySem.W.Frag)(H:Hp):List V->List (List Int)->Prop:=Paired fun v t=>∃ a,v=V.ref a/\SqT K H a (t.map V.int)
theorem TupsV.get {K:PySem.W.Frag}{H:Hp}:∀ {vs:List V}{ts:List (List Int)}{i:Nat},TupsV K H vs ts->i<vs.length->∃ a,vs[i]? = some (V.ref a)/\SqT K H a ((ts.getD i []).map V.int)
 | _,_,_,.nil,h=>by simp at h
 | _,_,0,.cons ⟨a,e,q⟩ _,_=>⟨a,by rw [e];rfl,q⟩
 | _,_,i+1,.cons _ t,h=>by
  obtain ⟨a,e,q⟩:=TupsV.get (i:=i) t (by simpa using h)
  exact ⟨a,by simpa using e,q⟩
section
open PyProof.Rows
variable {prog:Program}{w:World}{A:Around}{E:Value->Shared->Prop}{s:Shared}
end
section
variable {X:Cx}
end
section
variable {X:Cx}
end
end L3
namespace L3
open PySem L2 PySem.W PyProof.Rows
noncomputable def gal:Bool->Keyed->Array Keyed->Nat->Nat->Nat->StateT SortSt Sem (Option Nat):=sortPriv% PySem.Builtin.gallop
section
variable {M:Model}{A:Around}{E:Value->Shared->Prop}{σ:Type}
theorem kasC_loop {β:Type}{f:Nat->β->StateT σ Sem (ForInStep β)}{st:σ}{s:Shared}{Q:β->σ->Shared->Prop}(Iv:Nat->β->Prop)(Dn:β->Prop)(n:Nat)
  (step:∀ i x b,i<n->Iv i b->kasC M A E (f x b) (fun r st' s'=>st'=st/\s'=s/\match r with|.done c=>Dn c|.yield c=>Iv (i+1) c) st s)(fin:∀ b,Iv n b->Dn b)(k:∀ b,Dn b->Q b st s) :
  ∀ (l:List Nat)(i:Nat)(b:β),i+l.length=n->Iv i b->kasC M A E (forIn l b f) Q st s
 | [],i,b,h,hI=>kasC_nil (k b (fin b (by simp at h;subst h;exact hI)))
 | x::l,i,b,h,hI=>by
  rw [List.length_cons] at h
  refine kasC_cons (wpAny_mono (step i x b (by omega) hI) (fun r s' q=>?_) fun _ _ e=>e)
  obtain ⟨r,st'⟩:=r
  obtain ⟨q1,q2,q3⟩:=q
  dsimp only at q1 q2
  subst q1 q2
  cases r with
  | done c=>exact k c q3
  | yield c=>exact kasC_loop Iv Dn n step fin k l (i+1) c (by omega) q3
end
section
variable {prog:Program}{w:World}{A:Around}{E:Value->Shared->Prop}{κ:SortKind}{st:SortSt}{s:Shared}
noncomputable def Cmp (prog:Program)(w:World)(A:Around)(κ:SortKind)(s:Shared)(X:Keyed->Prop)(an:Keyed->Keyed->Bool):Prop:=
 ∀ (x y:Keyed)(C:Bool->Shared->Prop),X x->X y->C (an x y) s->wpAny (model prog w) A (keyLt' κ x.1 y.1) C (fun _ _=>False) s
theorem lt_is {X:Keyed->Prop}{an:Keyed->Keyed->Bool}(hC:Cmp prog w A κ s X an)(hk:kindOf st=κ){x y:Keyed}(hx:X x)(hy:X y){Q:Option Bool->SortSt->Shared->Prop}(q:Q (some (an x y)) st s):kasC (model prog w) A E (lt' x y) Q st s:=by
 rw [lt'_eq]
 refine kasC_bind (kasC_get ?_)
 rw [hk]
 exact kasC_bind (kasC_lift (wpAny_attempt (wpAny_mono (hC x y (fun b s'=>b=an x y/\s'=s) hx hy ⟨rfl,rfl⟩) (fun b s' z=>by obtain ⟨rfl,rfl⟩:=z;exact kasC_pure q) fun _ _ f=>f.elim)))
theorem set_is {x:SortSt}{Q:PUnit->SortSt->Shared->Prop}(h:Q ⟨⟩ x s):kasC (model prog w) A E (set x:StateT SortSt Sem PUnit) Q st s:=by
 unfold kasC;rw [StateT.run_set];exact wpAny_pure h
theorem elem_is {ar:Array Keyed}{i:Nat}{x:Keyed}{Q:Keyed->SortSt->Shared->Prop}(h:ar[i]? = some x)(q:Q x st s):kasC (model prog w) A E (elem' ar i) Q st s:=by
 rw [elem'_eq,h];exact kasC_pure q
noncomputable def mrgLo:Array Keyed->Array Keyed->StateT SortSt Sem (Array Keyed):=sortPriv% PySem.Builtin.mergeLo
noncomputable def mrgHi:Array Keyed->Array Keyed->StateT SortSt Sem (Array Keyed):=sortPriv% PySem.Builtin.mergeHi
theorem putBk:∀ (l:List Keyed)(ar:Array Keyed)(o k:Nat),o+k+l.length<=ar.size->((l.zipIdx k).foldl (fun (a:Array Keyed)(x:Keyed×Nat)=>a.setIfInBounds (o+x.2) x.1) ar).toList=ar.toList.take (o+k)++l++ar.toList.drop (o+k+l.length)
 | [],ar,o,k,h=>by simp
 | x::l,ar,o,k,h=>by
  rw [List.zipIdx_cons,List.foldl_cons,putBk l _ o (k+1) (by rw [Array.size_setIfInBounds];rw [List.length_cons] at h;omega)]
  rw [List.length_cons] at h
  have hk:o+k<ar.toList.length:=by simp;omega
  rw [Array.toList_setIfInBounds,List.length_cons]
  dsimp only
  rw [show o+(k+1)=o+k+1 by omega,List.take_add_one,List.getElem?_set_self hk,List.take_set_of_le (Nat.le_refl _),List.drop_set_of_lt (by omega)]
  simp [show o+k+1+l.length=o+k+(l.length+1) by omega]
theorem lt_at {X:Keyed->Prop}{an:Keyed->Keyed->Bool}(hC:Cmp prog w A κ s X an)(hk:PyProof.Rows.kindOf st=κ){i j:Nat}{x y:Keyed}(hi:(arrOf st)[i]? = some x)(hj:(arrOf st)[j]? = some y)(hx:X x)(hy:X y){Q:Option Bool->SortSt->Shared->Prop}(q:Q (some (an x y)) st s):kasC (model prog w) A E (ltAt' i j) Q st s:=by
 rw [ltAt'_eq]
 refine kasC_bind (kasC_get ?_)
 refine kasC_bind (elem_is hi (kasC_bind (elem_is hj (lt_is hC hk hx hy q))))
end
section
variable {prog:Program}{w:World}{A:Around}{E:Value->Shared->Prop}{s:Shared}
theorem zip_self (us:List Value):(us.toArray.zip us.toArray).toList=us.map fun u=>(u,u):=by
 simp only [Array.toList_zip]
 induction us with
 | nil=>rfl
 | cons u us ih=>simpa using ih
structure Near (us:List Value)(n K:Nat)(an:Value->Value->Bool):Prop where
 len:us.length=n+1
 le:K<=n
 asc:∀ (i:Nat)(x z:Value),i+1<n->us[i+1]? = some x->us[i]? = some z->an x z=false
 ris:∀ x z,us[0]? = some x->us[n - 1]? = some z->an x z=true
 at_:∀ (i:Nat)(x z:Value),i<n->us[i]? = some x->us[n]? = some z->an z x=decide (K<=i)
noncomputable def Asks (prog:Program)(w:World)(A:Around)(us:List Value)(an:Value->Value->Bool)(s:Shared):Prop:=
 wpAny (model prog w) A (keyKind' us.toArray) (fun κ s'=>s'=s/\∀ (x y:Value)(C:Bool->Shared->Prop),x∈us->y∈us->C (an x y) s->wpAny (model prog w) A (keyLt' κ x y) C (fun _ _=>False) s) (fun _ _=>False) s
end
section
variable {X:Cx}{pins:List (Addr×Obj)}{σ:L2.St}{H:Hp}{s:Shared}
open Classical in
noncomputable def tv (K:PySem.W.Frag)(H:Hp):Value->List Int
 | .ref a=>if h:∃ t:List Int,SqT K H a (t.map V.int) then h.choose else []
 | _=>[]
end
end L3
namespace L3
open PySem PySem.Spec
namespace Tb
section
variable {prog:Program}{w:World}{A:Around}{E:Value->Shared->Prop}{s:Shared}
end
section
variable {prog:Program}{w:World}{A:Around}{R:Result->Shared->Prop}{I:Addr}{fp wr:List Addr}{G:Array GenState->Array GenState->Prop}{n:Nat}{P:Nat->Value->Prop}{St:Nat->Shared->Prop}
end
section
variable {prog:Program}{w:World}{A:Around}{E:Value->Shared->Prop}{s:Shared}
noncomputable abbrev noSet (led:Bool):Obj:={ cls:=.type "set",dict:=none,data:=.set #[] 0 (.fresh 0 0 led) }
end
end Tb
end L3
namespace L3
open PySem L2
open PyProof.Rows (IntsAre)
theorem intsD_eq:∀ {ds:List D}{k:List Int},intsD ds=some k->ds=k.map D.int
 | [],k,h=>by cases h;rfl
 | d::ds,k,h=>by
  cases d with
  | int i=>
   obtain ⟨k',h1,h2⟩:=Option.map_eq_some_iff.mp h
   subst h2
   rw [intsD_eq h1];rfl
  | _=>cases h
noncomputable def lstD (μ:Hm):D->Option (List D)
 | .rol xs=>some xs
 | .loc a=>match μ[a]? with
  | some (.lst xs)=>some xs
  | _=>none
 | _=>none
section
variable {K:PySem.W.Frag}{π:Nat->Addr}{n:Nat}{H:Hp}{μ:Hm}
theorem lst_of {v:V}{x:D}{xs:List D}(R:Rp K π H μ)(h:IsD K π μ.length H v x)(e:lstD μ x=some xs):∃ p vs,v=.ref p/\SqL K H p vs/\IsDs K π μ.length H vs xs:=by
 cases h with
 | rol q t=>cases e;exact ⟨_,_,rfl,q.sq,t⟩
 | @loc a ha=>
  simp only [lstD] at e
  split at e
  ·rename_i ys hy
   cases e
   obtain ⟨vs,h3,h4⟩:=R.lst a xs hy
   exact ⟨_,vs,rfl,.of h3,h4⟩
  ·cases e
 | _=>cases e
theorem ints_of':∀ {vs:List V}{k:List Int},IsDs K π n H vs (k.map D.int)->vs=k.map V.int
 | _,[],h=>by cases h;rfl
 | _,i::k,h=>by
  cases h with
  | cons h t=>cases h;rw [ints_of' t];rfl
theorem isInts:∀ (k:List Int),IsDs K π n H (k.map V.int) (k.map D.int)
 | []=>.nil
 | i::k=>.cons (.int i) (isInts k)
end
section
variable {X:Cx}{pins:List (Addr×Obj)}{σ:St}{H:Hp}{s:Shared}
end
end L3
namespace L3
open PySem L2
end L3
namespace L3
open PySem L2 PySem.W PyProof.Rows
section
variable {prog:Program}{w:World}{A:Around}{E:Value->Shared->Prop}{κ:SortKind}{st:SortSt}{s:Shared}
theorem rev_is {i j:Nat}{Q:Unit->SortSt->Shared->Prop}(q:Q () (setArr st (mirror (arrOf st) i j ((j - i) / 2))) s):kasC (model prog w) A E (reverseSlice' i j) Q st s:=by
 rw [reverseSlice'_eq];exact kasC_modify q
end
noncomputable def ltS (a b:Str):Bool:=decide (a.cps.toList<b.cps.toList)
noncomputable def desS (ss:List Str):Bool:=(List.range (ss.length - 1)).all fun i=>ltS (ss.getD (i+1) ⟨#[]⟩) (ss.getD i ⟨#[]⟩)
theorem strs_are:∀ {ss:List Str}{its:List Value},Vals (ss.map V.str) its->StrsAre its ss
 | [],_,h=>by cases h;exact .nil
 | x::ss,_,h=>by
  cases h with
  | cons h t=>
   obtain ⟨k,rfl⟩:=h
   exact .cons x k (strs_are t)
end L3
namespace L3
open PySem L2 PySem.W PyProof.Rows
section
variable {M:Model}{A:Around}{E:Value->Shared->Prop}{σ:Type}
theorem kasC_loopS {β:Type}{f:Nat->β->StateT σ Sem (ForInStep β)}{s:Shared}{Q:β->σ->Shared->Prop}(Iv:Nat->β->σ->Prop)(Dn:β->σ->Prop)(a n:Nat)
  (step:∀ i b st,i<n->Iv i b st->kasC M A E (f (a+i) b) (fun r st' s'=>s'=s/\match r with|.done c=>Dn c st'|.yield c=>Iv (i+1) c st') st s)(fin:∀ b st,Iv n b st->Dn b st)(k:∀ b st,Dn b st->Q b st s) :
  ∀ (m i:Nat)(b:β)(st:σ),i+m=n->Iv i b st->kasC M A E (forIn (List.range' (a+i) m) b f) Q st s
 | 0,i,b,st,h,hI=>kasC_nil (k b st (fin b st (by simp at h;subst h;exact hI)))
 | m+1,i,b,st,h,hI=>by
  rw [List.range'_succ]
  refine kasC_cons (wpAny_mono (step i b st (by omega) hI) (fun r s' q=>?_) fun _ _ e=>e)
  obtain ⟨r,st'⟩:=r
  obtain ⟨q1,q2⟩:=q
  subst q1
  cases r with
  | done c=>exact k c _ q2
  | yield c=>exact kasC_loopS Iv Dn a n step fin k m (i+1) c st' (by omega) q2
end
section
variable {prog:Program}{w:World}{A:Around}{E:Value->Shared->Prop}{κ:SortKind}{st:SortSt}{s:Shared}
theorem gal_h {X:Keyed->Prop}{an:Keyed->Keyed->Bool}(hC:Cmp prog w A κ s X an)(hk:kindOf st=κ){lf:Bool}{ky:Keyed}{ar:Array Keyed}{b n h:Nat}(hn:h<n)(y:Nat->Keyed)(ha:∀ i,i<n->ar[b+i]? = some (y i))(hX:∀ i,i<n->X (y i))(hy:X ky)(K:Nat)(hK:K<=n)
  (hB:∀ i,i<n->(if lf then an (y i) ky else !(an ky (y i)))=decide (i<K)){Q:Option Nat->SortSt->Shared->Prop}(q:Q (some K) st s):kasC (model prog w) A E (gal lf ky ar b n h) Q st s:=by
 have be:∀ {i:Nat}{R:Option Bool->SortSt->Shared->Prop},i<n->R (some (decide (i<K))) st s->kasC (model prog w) A E (do let x <- elem' ar (b+i);if lf then lt' x ky else return (<- lt' ky x).map (!·)) R st s:=by
  intro i R hi r
  rw [elem'_eq,ha i hi]
  refine kasC_bind (kasC_pure ?_)
  have:=hB i hi
  cases lf with
  | true=>
   simp only [if_true] at this ⊢
   exact lt_is hC hk (hX i hi) hy (by rw [this];exact r)
  | false=>
   simp only [Bool.false_eq_true,if_false] at this ⊢
   refine kasC_bind (lt_is hC hk hy (hX i hi) (kasC_pure ?_))
   show R (some (!(an ky (y i)))) st s
   rw [this]
   exact r
 unfold gal
 refine kasC_bind (be hn ?_)
 by_cases h0:h<K
 ·simp only [h0,decide_true,if_true]
  refine kasC_bind (kasC_range (kasC_loop (fun i c=>c.1=none/\h+c.2.1<K/\c.2.1<c.2.2/\i+1<=c.2.2) (fun c=>c.1=none/\h+c.2.1<K/\c.2.1<c.2.2/\K<=h+min c.2.2 (n - h)) n (fun i x c hi hI=>?_) (fun c hI=>⟨hI.1,hI.2.1,hI.2.2.1,by omega⟩) (fun c hD=>?_) _ 0 _ (by simp) ⟨rfl,h0,by decide,Nat.le_refl _⟩))
  ·obtain ⟨c0,la,of⟩:=c
   obtain ⟨z0,z1,z2,z3⟩:=hI
   dsimp only at z0 z1 z2 z3 ⊢
   by_cases hl:of >= n - h
   ·rw [if_pos hl]
    exact kasC_pure ⟨rfl,rfl,rfl,z1,z2,by dsimp only;omega⟩
   ·rw [if_neg hl]
    refine kasC_bind (be (i:=h+of) (by omega) ?_)
    by_cases hm:h+of<K
    ·simp only [hm,decide_true,Bool.not_true,Bool.false_eq_true,if_false]
     exact kasC_pure ⟨rfl,rfl,rfl,by dsimp only;omega,by dsimp only;omega,by dsimp only;omega⟩
    ·simp only [hm,decide_false,Bool.not_false,if_true]
     exact kasC_pure ⟨rfl,rfl,rfl,z1,z2,by dsimp only;omega⟩
  ·obtain ⟨c0,la,of⟩:=c
   obtain ⟨z0,z1,z2,z3⟩:=hD
   dsimp only at z0 z1 z2 z3 ⊢
   subst z0
   dsimp only
   refine kasC_bind (kasC_range (kasC_loop (fun i c=>c.1=none/\c.2.1<=K/\K<=c.2.2/\c.2.2<=n/\c.2.2 - c.2.1<=n - i) (fun c=>c.1=none/\c.2.2=K) n (fun i x c hi hI=>?_) (fun c hI=>⟨hI.1,by omega⟩) (fun c hD=>?_) _ 0 _ (by simp) ⟨rfl,by dsimp only;omega,by dsimp only;omega,by dsimp only;omega,by dsimp only;omega⟩))
   ·obtain ⟨c0,lo,hg⟩:=c
    obtain ⟨h0,h1,h2,h3,h4⟩:=hI
    dsimp only at h0 h1 h2 h3 h4 ⊢
    by_cases hl:lo >= hg
    ·rw [if_pos hl]
     exact kasC_pure ⟨rfl,rfl,rfl,by dsimp only;omega⟩
    ·rw [if_neg hl]
     refine kasC_bind (be (i:=lo+(hg - lo) / 2) (by omega) ?_)
     by_cases hm:lo+(hg - lo) / 2<K
     ·simp only [hm,decide_true,if_true]
      exact kasC_pure ⟨rfl,rfl,rfl,by dsimp only;omega,h2,h3,by dsimp only;omega⟩
     ·simp only [hm,decide_false,Bool.false_eq_true,if_false]
      exact kasC_pure ⟨rfl,rfl,rfl,h1,by dsimp only;omega,by dsimp only;omega,by dsimp only;omega⟩
   ·obtain ⟨c0,lo,hg⟩:=c
    obtain ⟨h0,h1⟩:=hD
    dsimp only at h0 h1 ⊢
    subst h0 h1
    exact kasC_pure q
 ·simp only [h0,decide_false,Bool.false_eq_true,if_false]
  refine kasC_bind (kasC_range (kasC_loop (fun i c=>c.1=none/\K+c.2.1<=h/\c.2.1<c.2.2/\i+1<=c.2.2) (fun c=>c.1=none/\K+c.2.1<=h/\c.2.1<c.2.2/\h+1<=K+min c.2.2 (h+1)) n (fun i x c hi hI=>?_) (fun c hI=>⟨hI.1,hI.2.1,hI.2.2.1,by omega⟩) (fun c hD=>?_) _ 0 _ (by simp) ⟨rfl,by dsimp only;omega,by decide,Nat.le_refl _⟩))
  ·obtain ⟨c0,la,of⟩:=c
   obtain ⟨z0,z1,z2,z3⟩:=hI
   dsimp only at z0 z1 z2 z3 ⊢
   by_cases hl:of >= h+1
   ·rw [if_pos hl]
    exact kasC_pure ⟨rfl,rfl,rfl,z1,z2,by dsimp only;omega⟩
   ·rw [if_neg hl]
    refine kasC_bind (be (i:=h - of) (by omega) ?_)
    by_cases hm:h - of<K
    ·simp only [hm,decide_true,if_true]
     exact kasC_pure ⟨rfl,rfl,rfl,z1,z2,by dsimp only;omega⟩
    ·simp only [hm,decide_false,Bool.false_eq_true,if_false]
     exact kasC_pure ⟨rfl,rfl,rfl,by dsimp only;omega,by dsimp only;omega,by dsimp only;omega⟩
  ·obtain ⟨c0,la,of⟩:=c
   obtain ⟨z0,z1,z2,z3⟩:=hD
   dsimp only at z0 z1 z2 z3 ⊢
   subst z0
   dsimp only
   refine kasC_bind (kasC_range (kasC_loop (fun i c=>c.1=none/\c.2.1<=K/\K<=c.2.2/\c.2.2<=n/\c.2.2 - c.2.1<=n - i) (fun c=>c.1=none/\c.2.2=K) n (fun i x c hi hI=>?_) (fun c hI=>⟨hI.1,by omega⟩) (fun c hD=>?_) _ 0 _ (by simp) ⟨rfl,by dsimp only;omega,by dsimp only;omega,by dsimp only;omega,by dsimp only;omega⟩))
   ·obtain ⟨c0,lo,hg⟩:=c
    obtain ⟨h0,h1,h2,h3,h4⟩:=hI
    dsimp only at h0 h1 h2 h3 h4 ⊢
    by_cases hl:lo >= hg
    ·rw [if_pos hl]
     exact kasC_pure ⟨rfl,rfl,rfl,by dsimp only;omega⟩
    ·rw [if_neg hl]
     refine kasC_bind (be (i:=lo+(hg - lo) / 2) (by omega) ?_)
     by_cases hm:lo+(hg - lo) / 2<K
     ·simp only [hm,decide_true,if_true]
      exact kasC_pure ⟨rfl,rfl,rfl,by dsimp only;omega,h2,h3,by dsimp only;omega⟩
     ·simp only [hm,decide_false,Bool.false_eq_true,if_false]
      exact kasC_pure ⟨rfl,rfl,rfl,h1,by dsimp only;omega,by dsimp only;omega,by dsimp only;omega⟩
   ·obtain ⟨c0,lo,hg⟩:=c
    obtain ⟨h0,h1⟩:=hD
    dsimp only at h0 h1 ⊢
    subst h0 h1
    exact kasC_pure q
end
section
variable {α:Type}{r:α->Int}{A B O:List α}{ia ib:Nat}
noncomputable def Sr (r:α->Int)(l:List α):Prop:=l.Pairwise fun x y=>r x<=r y
structure J (r:α->Int)(A B O:List α)(ia ib:Nat):Prop where
 sa:Sr r (O++A.drop ia)
 sb:Sr r (O++B.drop ib)
 pm:O.Perm (A.take ia++B.take ib)
theorem J.swap (h:J r A B O ia ib):J r B A O ib ia:=⟨h.sb,h.sa,h.pm.trans List.perm_append_comm⟩
theorem J.blockB (h:J r A B O ia ib){k:Nat}(hk:∀ x∈(B.drop ib).take k,∀ y∈A.drop ia,r x<=r y):J r A B (O++(B.drop ib).take k) ia (ib+k):=by
 obtain ⟨h1,h2,h3⟩:=h
 have e:O++(B.drop ib).take k++B.drop (ib+k)=O++B.drop ib:=by rw [List.append_assoc,<- List.drop_drop,List.take_append_drop]
 refine ⟨?_,by rw [e];exact h2,?_⟩
 ·unfold Sr at h1 h2 ⊢
  rw [List.append_assoc,List.pairwise_append]
  rw [List.pairwise_append] at h1 h2
  refine ⟨h1.1,?_,fun x hx y hy=>?_⟩
  ·rw [List.pairwise_append]
   exact ⟨h2.2.1.sublist (List.take_sublist _ _),h1.2.1,hk⟩
  ·rcases List.mem_append.mp hy with hy|hy
   ·exact h2.2.2 x hx y (List.mem_of_mem_take hy)
   ·exact h1.2.2 x hx y hy
 ·rw [List.take_add]
  exact ((h3.append_right _).trans (by rw [List.append_assoc]))
theorem J.blockA (h:J r A B O ia ib){k:Nat}(hk:∀ x∈(A.drop ia).take k,∀ y∈B.drop ib,r x<=r y):J r A B (O++(A.drop ia).take k) (ia+k) ib:=(h.swap.blockB hk).swap
theorem drop_cons {l:List α}{i:Nat}{x:α}(h:l[i]? = some x):l.drop i=x::l.drop (i+1):=by
 obtain ⟨h1,rfl⟩:=List.getElem?_eq_some_iff.mp h
 exact List.drop_eq_getElem_cons h1
theorem Sr.head {l:List α}{x:α}(h:Sr r (x::l)):∀ y∈x::l,r x<=r y:=fun y hy=>by
 rcases List.mem_cons.mp hy with rfl|hy
 ·exact Int.le_refl _
 ·exact List.rel_of_pairwise_cons h hy
theorem J.lowA (h:J r A B O ia ib){x:α}(hx:A[ia]? = some x):∀ y∈A.drop ia,r x<=r y:=by
 have:=(List.pairwise_append.mp h.sa).2.1
 rw [drop_cons hx] at this ⊢
 exact Sr.head this
theorem J.lowB (h:J r A B O ia ib){x:α}(hx:B[ib]? = some x):∀ y∈B.drop ib,r x<=r y:=h.swap.lowA hx
theorem J.pushB (h:J r A B O ia ib){x y:α}(hx:A[ia]? = some x)(hy:B[ib]? = some y)(hl:r y<=r x):J r A B (O++[y]) ia (ib+1):=by
 have:=h.blockB (k:=1) (by
  rw [drop_cons hy]
  intro z hz u hu
  rw [List.take_succ_cons,List.take_zero,List.mem_singleton] at hz
  subst hz
  have:=h.lowA hx u hu
  omega)
 rwa [drop_cons hy,List.take_succ_cons,List.take_zero] at this
theorem J.pushA (h:J r A B O ia ib){x y:α}(hx:A[ia]? = some x)(hy:B[ib]? = some y)(hl:r x<=r y):J r A B (O++[x]) (ia+1) ib:=(h.swap.pushB hy hx hl).swap
theorem mem_block {l:List α}{i k:Nat}{x:α}(h:x∈(l.drop i).take k):∃ j,j<k/\l[i+j]? = some x:=by
 obtain ⟨j,hj,e⟩:=List.getElem_of_mem h
 rw [List.length_take] at hj
 refine ⟨j,by omega,?_⟩
 rw [<- e,List.getElem_take,List.getElem_drop,List.getElem?_eq_getElem]
theorem J.gallA (h:J r A B O ia ib){k:Nat}{y:α}(hy:B[ib]? = some y)(hk:∀ j x,j<k->A[ia+j]? = some x->r x<=r y):J r A B (O++(A.drop ia).take k) (ia+k) ib:=h.blockA fun x hx z hz=>by
 obtain ⟨j,hj,e⟩:=mem_block hx
 have h1:=hk j x hj e
 have h2:=h.lowB hy z hz
 omega
theorem J.gallB (h:J r A B O ia ib){k:Nat}{x:α}(hx:A[ia]? = some x)(hk:∀ j y,j<k->B[ib+j]? = some y->r y<=r x):J r A B (O++(B.drop ib).take k) ia (ib+k):=(h.swap.gallA hx hk).swap
noncomputable def Fi (r:α->Int)(A B R:List α):Prop:=R.Perm (A++B)/\Sr r R
theorem J.endB (h:J r A B O ia ib)(hb:B.length<=ib):Fi r A B (O++A.drop ia++B.drop ib):=by
 rw [List.drop_of_length_le hb,List.append_nil]
 refine ⟨?_,h.sa⟩
 have:=h.pm.append_right (A.drop ia)
 refine this.trans ?_
 rw [List.take_of_length_le hb]
 refine List.perm_append_comm.trans ?_
 rw [<- List.append_assoc]
 refine (List.Perm.append_right B (List.perm_append_comm)).trans ?_
 rw [List.take_append_drop]
theorem J.endA (h:J r A B O ia ib)(ha:A.length<=ia):Fi r A B (O++A.drop ia++B.drop ib):=by
 have:=h.swap.endB ha
 rw [List.drop_of_length_le ha,List.append_nil] at this ⊢
 exact ⟨this.1.trans List.perm_append_comm,this.2⟩
theorem J.last (h:J r A B O ia ib)(ha:A.length=ia+1)(hl:∀ x,A[ia]? = some x->∀ y∈B,r y<=r x):Fi r A B (O++B.drop ib++A.drop ia):=by
 have hx:A[ia]? = some A[ia]:=List.getElem?_eq_getElem (by omega)
 have g:=h.gallB (k:=B.length - ib) hx fun j y _ hy=>hl _ hx y (List.mem_of_getElem? hy)
 have e:(B.drop ib).take (B.length - ib)=B.drop ib:=List.take_of_length_le (by rw [List.length_drop];exact Nat.le_refl _)
 rw [e] at g
 have:=g.endB (by omega)
 rwa [List.drop_of_length_le (l:=B) (i:=ib+(B.length - ib)) (by omega),List.append_nil] at this
end
end L3
namespace L3
open PySem L2 PySem.W PyProof.Rows
section
variable {prog:Program}{w:World}{A₀:Around}{E:Value->Shared->Prop}{κ:SortKind}{st:SortSt}{s:Shared}{A B:List Keyed}
theorem ext_all (A:List Keyed)(i:Nat):(A.toArray.extract i A.toArray.size).toList=A.drop i:=by
 rw [Array.toList_extract,List.extract_eq_drop_take,List.toList_toArray,List.size_toArray,List.take_of_length_le (by rw [List.length_drop];exact Nat.le_refl _)]
theorem ext_part (A:List Keyed)(i j:Nat):(A.toArray.extract i j).toList=(A.drop i).take (j - i):=by
 rw [Array.toList_extract,List.extract_eq_drop_take,List.toList_toArray]
theorem ext_sum (A:List Keyed)(i k:Nat):(A.toArray.extract i (i+k)).toList=(A.drop i).take k:=by
 rw [ext_part,Nat.add_sub_cancel_left]
theorem el_is {i:Nat}{x:Keyed}{Q:Keyed->SortSt->Shared->Prop}(h:A[i]? = some x)(q:Q x st s):kasC (model prog w) A₀ E (elem' A.toArray i) Q st s:=elem_is (by rw [List.getElem?_toArray];exact h) q
noncomputable def cnt (p:Keyed->Bool)(l:List Keyed):Nat:=(l.takeWhile p).length
theorem cnt_le (p:Keyed->Bool)(l:List Keyed):cnt p l<=l.length:=List.Sublist.length_le (List.takeWhile_sublist _)
theorem cnt_is {p:Keyed->Bool}:∀ {l:List Keyed},l.Pairwise (fun x y=>p y=true->p x=true)->∀ (i:Nat)(x:Keyed),l[i]? = some x->p x=decide (i<cnt p l)
 | [],_,i,x,h=>by cases h
 | a::l,hp,i,x,h=>by
  unfold cnt
  rw [List.pairwise_cons] at hp
  cases hpa:p a with
  | true=>
   rw [List.takeWhile_cons,hpa,if_pos rfl,List.length_cons]
   cases i with
   | zero=>cases h;rw [hpa];simp
   | succ i=>
    have:=cnt_is hp.2 i x h
    unfold cnt at this
    rw [this]
    simp
  | false=>
   rw [List.takeWhile_cons,hpa,if_neg Bool.false_ne_true,List.length_nil]
   cases i with
   | zero=>cases h;rw [hpa];simp
   | succ i=>
    cases hx:p x with
    | false=>simp
    | true=>
     have:=hp.1 x (List.mem_of_getElem? h) hx
     rw [hpa] at this
     cases this
variable {X:Keyed->Prop}{r:Keyed->Int}
noncomputable abbrev lr (r:Keyed->Int)(x y:Keyed):Bool:=decide (r x<r y)
theorem Sr.le {l:List Keyed}(h:Sr r l)(b:Int):l.Pairwise (fun x y=>decide (r y<=b)=true->decide (r x<=b)=true):=h.imp fun {x y} h1 h2=>by
 rw [decide_eq_true_eq] at h2 ⊢;omega
theorem Sr.lt {l:List Keyed}(h:Sr r l)(b:Int):l.Pairwise (fun x y=>decide (r y<b)=true->decide (r x<b)=true):=h.imp fun {x y} h1 h2=>by
 rw [decide_eq_true_eq] at h2 ⊢;omega
theorem Sr.part {l:List Keyed}(h:Sr r l)(i k:Nat):Sr r ((l.drop i).take k):=(List.Pairwise.sublist (List.take_sublist _ _) (List.Pairwise.sublist (List.drop_sublist _ _) h))
theorem gal_le (hC:Cmp prog w A₀ κ s X (lr r))(hk:kindOf st=κ){ky:Keyed}{b n h:Nat}(hn:h<n)(hl:b+n<=A.length)(hX:∀ x∈A,X x)(hy:X ky)(hS:Sr r ((A.drop b).take n))
  {Q:Option Nat->SortSt->Shared->Prop}(q:∀ K,K<=n->(∀ j x,j<n->A[b+j]? = some x->(r x<=r ky↔j<K))->Q (some K) st s):kasC (model prog w) A₀ E (gal false ky A.toArray b n h) Q st s:=by
 have hg:∀ i,i<n->A[b+i]? = some (A.getD (b+i) (.none,.none)):=fun i hi=>by
  rw [List.getD_eq_getElem?_getD,List.getElem?_eq_getElem (by omega)];rfl
 have hc:=cnt_is (hS.le (r ky))
 have hle:=cnt_le (fun x=>decide (r x<=r ky)) ((A.drop b).take n)
 rw [List.length_take,List.length_drop] at hle
 have at_:∀ j x,j<n->A[b+j]? = some x->((A.drop b).take n)[j]? = some x:=fun j x hj h=>by
  rw [List.getElem?_take_of_lt hj,List.getElem?_drop];exact h
 refine gal_h hC hk hn (fun i=>A.getD (b+i) (.none,.none)) (fun i hi=>by rw [List.getElem?_toArray];exact hg i hi) (fun i hi=>hX _ (List.mem_of_getElem? (hg i hi))) hy _ (by omega) (fun i hi=>?_) (q (cnt (fun x=>decide (r x<=r ky)) ((A.drop b).take n)) (by omega) fun j x hj h=>?_)
 ·have:=hc i _ (at_ i _ hi (hg i hi))
  rw [if_neg Bool.false_ne_true,<- this]
  unfold lr
  by_cases h:r ky<r (A.getD (b+i) (.none,.none))
  ·rw [decide_eq_true h,decide_eq_false (by omega)];rfl
  ·rw [decide_eq_false h,decide_eq_true (by omega)];rfl
 ·have:=hc j x (at_ j x hj h)
  rw [<- decide_eq_true_eq (p:=r x<=r ky),this,decide_eq_true_eq]
theorem gal_lt (hC:Cmp prog w A₀ κ s X (lr r))(hk:kindOf st=κ){ky:Keyed}{b n h:Nat}(hn:h<n)(hl:b+n<=A.length)(hX:∀ x∈A,X x)(hy:X ky)(hS:Sr r ((A.drop b).take n))
  {Q:Option Nat->SortSt->Shared->Prop}(q:∀ K,K<=n->(∀ j x,j<n->A[b+j]? = some x->(r x<r ky↔j<K))->Q (some K) st s):kasC (model prog w) A₀ E (gal true ky A.toArray b n h) Q st s:=by
 have hg:∀ i,i<n->A[b+i]? = some (A.getD (b+i) (.none,.none)):=fun i hi=>by
  rw [List.getD_eq_getElem?_getD,List.getElem?_eq_getElem (by omega)];rfl
 have hc:=cnt_is (hS.lt (r ky))
 have hle:=cnt_le (fun x=>decide (r x<r ky)) ((A.drop b).take n)
 rw [List.length_take,List.length_drop] at hle
 have at_:∀ j x,j<n->A[b+j]? = some x->((A.drop b).take n)[j]? = some x:=fun j x hj h=>by
  rw [List.getElem?_take_of_lt hj,List.getElem?_drop];exact h
 refine gal_h hC hk hn (fun i=>A.getD (b+i) (.none,.none)) (fun i hi=>by rw [List.getElem?_toArray];exact hg i hi) (fun i hi=>hX _ (List.mem_of_getElem? (hg i hi))) hy _ (by omega) (fun i hi=>?_) (q (cnt (fun x=>decide (r x<r ky)) ((A.drop b).take n)) (by omega) fun j x hj h=>?_)
 ·have:=hc i _ (at_ i _ hi (hg i hi))
  rw [if_pos rfl,<- this]
 ·have:=hc j x (at_ j x hj h)
  rw [<- decide_eq_true_eq (p:=r x<r ky),this,decide_eq_true_eq]
end
end L3
namespace L3
open PySem L2 PySem.W PyProof.Rows
section
variable {prog:Program}{w:World}{A₀:Around}{E:Value->Shared->Prop}{κ:SortKind}{s:Shared}{A B:List Keyed}{X:Keyed->Prop}{r:Keyed->Int}
theorem kasC_iteN {σ β:Type}{M:Model}{A₁:Around}{E₁:Value->Shared->Prop}{s₁:Shared}{Q:β->σ->Shared->Prop}{st:σ}{c:Prop} [Decidable c] {a b:StateT σ Sem β}(h2:¬ c->kasC M A₁ E₁ b Q st s₁)(h1:c->kasC M A₁ E₁ a Q st s₁):kasC M A₁ E₁ (if c then a else b) Q st s₁:=by
 by_cases h:c
 ·rw [if_pos h];exact h1 h
 ·rw [if_neg h];exact h2 h
theorem dn_lo (out:Array Keyed)(i j:Nat):(out++A.toArray.extract i A.toArray.size++B.toArray.extract j B.toArray.size).toList=out.toList++A.drop i++B.drop j:=by
 rw [Array.toList_append,Array.toList_append,ext_all,ext_all]
noncomputable def Go (r:Keyed->Int)(A B:List Keyed)(n:Nat)(out:Array Keyed)(ia ib:Nat):Prop:=J r A B out.toList ia ib/\ia+1<A.length/\ib<B.length/\n<=ia+ib
theorem lo_m (hC:Cmp prog w A₀ κ s X (lr r))(hXA:∀ x∈A,X x)(hXB:∀ x∈B,X x)(hA:Sr r A)(hB:Sr r B)(hA0:0<A.length)(hB0:0<B.length)(hf:∀ y,B[0]? = some y->∀ x∈A,r y<=r x)(hl:∀ x,A[A.length - 1]? = some x->∀ y∈B,r y<=r x)
  {ar:Array Keyed}{pd:Array (Nat×Nat×Nat)}{mg:Nat}{Q:Array Keyed->SortSt->Shared->Prop}(q:∀ R mg',Fi r A B R.toList->Q R (SortSt.mk' κ ar pd mg' none) s) :
  kasC (model prog w) A₀ E (mrgLo A.toArray B.toArray) Q (SortSt.mk' κ ar pd mg none) s:=by
 have getA:∀ i,i<A.length->∃ x,A[i]? = some x/\X x:=fun i hi=>⟨A[i],List.getElem?_eq_getElem hi,hXA _ (List.getElem_mem hi)⟩
 have getB:∀ i,i<B.length->∃ x,B[i]? = some x/\X x:=fun i hi=>⟨B[i],List.getElem?_eq_getElem hi,hXB _ (List.getElem_mem hi)⟩
 have last:∀ {O:List Keyed}{ia ib:Nat},J r A B O ia ib->ia+1=A.length->Fi r A B (O++B.drop ib++A.drop ia):=fun {O ia ib} h e=>h.last e.symm fun x hx=>hl x (by rw [show A.length - 1=ia by omega];exact hx)
 unfold mrgLo
 refine kasC_bind (kasC_lift (wpAny_rule ?_))
 obtain ⟨y0,hy0,_⟩:=getB 0 hB0
 refine kasC_bind (el_is hy0 ?_)
 have j0:J r A B [y0] 0 1:=by
  refine ⟨?_,?_,?_⟩
  ·show Sr r (y0::A.drop 0)
   unfold Sr
   rw [List.drop_zero,List.pairwise_cons]
   exact ⟨fun x hx=>hf y0 hy0 x hx,hA⟩
  ·show Sr r (y0::B.drop 1)
   rw [<- drop_cons hy0,List.drop_zero]
   exact hB
  ·rw [List.take_zero,List.nil_append]
   cases B with
   | nil=>cases hy0
   | cons b B=>cases hy0;exact List.Perm.refl _
 dsimp only
 by_cases h1:B.length=1
 ·rw [if_pos (by rw [List.size_toArray,h1];rfl)]
  refine kasC_pure (q _ _ ?_)
  rw [dn_lo]
  exact j0.endB (by omega)
 rw [if_neg (by rw [List.size_toArray,beq_iff_eq];omega)]
 by_cases h2:A.length=1
 ·rw [if_pos (by rw [List.size_toArray,h2];rfl)]
  refine kasC_pure (q _ _ ?_)
  rw [dn_lo]
  exact last j0 (by omega)
 rw [if_neg (by rw [List.size_toArray,beq_iff_eq];omega)]
 refine kasC_bind (kasC_get ?_)
 have htot:A.toArray.size+B.toArray.size=A.length+B.length:=by rw [List.size_toArray,List.size_toArray]
 refine kasC_bind (kasC_range (kasC_loopS (fun i c st=>(∃ mg',st=SortSt.mk' κ ar pd mg' none)/\∃ out ia ib m,c=(none,out,ia,ib,m)/\Go r A B (i+1) out ia ib) (fun c st=>(∃ mg',st=SortSt.mk' κ ar pd mg' none)/\∃ R:Array Keyed,c.1=some R/\Fi r A B R.toList) 0 (A.length+B.length) (fun i c st hi hI=>?_) (fun c st hI=>?_) (fun c st hD=>?_) (A.toArray.size+B.toArray.size - 0) 0 _ _ (by rw [htot];omega) ⟨⟨_,rfl⟩,_,_,_,_,rfl,j0,by omega,by omega,by omega⟩))
 ·obtain ⟨⟨mg1,rfl⟩,out,ia,ib,m,rfl,hG⟩:=hI
  dsimp only
    -- one by one
  refine kasC_bind (kasC_range (kasC_loopS (fun j c st=>st=SortSt.mk' κ ar pd mg1 none/\∃ out ia ib ac bc,c=(none,out,ia,ib,ac,bc)/\Go r A B (i+1+j) out ia ib) (fun c st=>st=SortSt.mk' κ ar pd mg1 none/\((∃ R:Array Keyed,c.1=some R/\Fi r A B R.toList)\/∃ out ia ib ac bc,c=(none,out,ia,ib,ac,bc)/\Go r A B (i+2) out ia ib)) 0 (A.length+B.length) (fun j c st hj hJ=>?_) (fun c st hJ=>?_) (fun c st hD=>?_) (A.toArray.size+B.toArray.size - 0) 0 _ _ (by rw [htot];omega) ⟨rfl,_,_,_,_,_,rfl,hG⟩))
  ·obtain ⟨rfl,out,ia,ib,ac,bc,rfl,g1,g2,g3,g4⟩:=hJ
   dsimp only
   obtain ⟨x,hx,Xx⟩:=getA ia (by omega)
   obtain ⟨y,hy,Xy⟩:=getB ib g3
   refine kasC_bind (el_is hy (kasC_bind (el_is hx (kasC_bind (lt_is hC rfl Xy Xx ?_)))))
   dsimp only
   by_cases hc:r y<r x
   ·rw [if_pos (by unfold lr;exact decide_eq_true hc)]
    refine kasC_bind (el_is hy ?_)
    have g5:=g1.pushB hx hy (Int.le_of_lt hc)
    rw [<- Array.toList_push] at g5
    by_cases he:ib+1=B.length
    ·rw [if_pos (by rw [List.size_toArray,beq_iff_eq];exact he)]
     refine kasC_pure ⟨rfl,rfl,.inl ⟨_,rfl,?_⟩⟩
     rw [dn_lo]
     exact g5.endB (by omega)
    ·rw [if_neg (by rw [List.size_toArray,beq_iff_eq];exact he)]
     split
     ·exact kasC_pure ⟨rfl,rfl,.inr ⟨_,_,_,_,_,rfl,g5,g2,by omega,by omega⟩⟩
     ·exact kasC_pure ⟨rfl,rfl,_,_,_,_,_,rfl,g5,g2,by omega,by omega⟩
   ·rw [if_neg (by unfold lr;rw [decide_eq_true_eq];exact hc)]
    refine kasC_bind (el_is hx ?_)
    have g5:=g1.pushA hx hy (by omega)
    rw [<- Array.toList_push] at g5
    by_cases he:ia+1+1=A.length
    ·rw [if_pos (by rw [List.size_toArray,beq_iff_eq];exact he)]
     refine kasC_pure ⟨rfl,rfl,.inl ⟨_,rfl,?_⟩⟩
     rw [dn_lo]
     exact last g5 he
    ·rw [if_neg (by rw [List.size_toArray,beq_iff_eq];exact he)]
     split
     ·exact kasC_pure ⟨rfl,rfl,.inr ⟨_,_,_,_,_,rfl,g5,by omega,g3,by omega⟩⟩
     ·exact kasC_pure ⟨rfl,rfl,_,_,_,_,_,rfl,g5,by omega,g3,by omega⟩
  ·obtain ⟨rfl,out,ia,ib,ac,bc,rfl,g1,g2,g3,g4⟩:=hJ
   exact ⟨rfl,.inr ⟨_,_,_,_,_,rfl,g1,g2,g3,by omega⟩⟩
  ·obtain ⟨rfl,hD⟩:=hD
   obtain ⟨c0,out,ia,ib,ac,bc⟩:=c
   dsimp only
   rcases hD with ⟨R,e,hR⟩|⟨out',ia',ib',ac',bc',e,hG⟩
   ·dsimp only at e
    subst e
    exact kasC_pure ⟨rfl,⟨_,rfl⟩,R,rfl,hR⟩
   cases e
   dsimp only
   refine kasC_bind (kasC_lift (wpAny_rule ?_))
      -- by leaps
   refine kasC_bind (kasC_range (kasC_loopS (fun j c st=>(∃ mg',st=SortSt.mk' κ ar pd mg' none)/\∃ out ia ib m ac bc,c=(none,out,ia,ib,m,ac,bc)/\Go r A B (i+2) out ia ib) (fun c st=>(∃ mg',st=SortSt.mk' κ ar pd mg' none)/\((∃ R:Array Keyed,c.1=some R/\Fi r A B R.toList)\/∃ out ia ib m ac bc,c=(none,out,ia,ib,m,ac,bc)/\Go r A B (i+2) out ia ib)) 0 (A.length+B.length) (fun j c st hj hJ=>?_) (fun c st hJ=>?_) (fun c st hD=>?_) (A.toArray.size+B.toArray.size - 0) 0 _ _ (by rw [htot];omega) ⟨⟨_,rfl⟩,_,_,_,_,_,_,rfl,hG⟩))
   ·obtain ⟨⟨mg2,rfl⟩,out,ia,ib,m,ac,bc,rfl,g1,g2,g3,g4⟩:=hJ
    dsimp only
    obtain ⟨y,hy,Xy⟩:=getB ib g3
    refine kasC_iteN (fun hm=>?_) fun hm=>?_
    all_goals
     refine kasC_bind (kasC_modify ?_)
     refine kasC_bind (el_is hy ?_)
     refine kasC_bind (gal_le hC rfl (b:=ia) (n:=A.toArray.size - ia) (h:=0) (by rw [List.size_toArray];omega) (by rw [List.size_toArray];omega) hXA Xy (hA.part _ _) fun k hk1 hk2=>?_)
     rw [List.size_toArray] at hk1
     dsimp only
     have g5:=g1.gallA (k:=k) hy fun j x hj hx=>(hk2 j x (by rw [List.size_toArray];omega) hx).mpr hj
     have nx:∀ x,A[ia+k]? = some x->r y<r x:=fun x hx=>by
      have h1:=(List.getElem?_eq_some_iff.mp hx).1
      have:=hk2 k x (by rw [List.size_toArray];omega) hx
      omega
     have g6:k=0->J r A B out.toList (ia+k) ib:=fun e=>by rw [e];exact g1
     have e1:(out++A.toArray.extract ia (ia+k)).toList=out.toList++(A.drop ia).take k:=by rw [Array.toList_append,ext_sum]
     rw [<- e1] at g5
     refine kasC_iteN (fun hk0=>?_) fun hk0=>kasC_iteN (fun he=>kasC_iteN (fun he2=>?_) fun he2=>?_) fun he=>?_
     rotate_left 2
     ·rw [List.size_toArray,beq_iff_eq] at he2
      refine kasC_pure ⟨rfl,⟨_,rfl⟩,.inl ⟨_,rfl,?_⟩⟩
      rw [dn_lo]
      exact g5.endA (by omega)
     ·rw [List.size_toArray,beq_iff_eq] at he
      refine kasC_pure ⟨rfl,⟨_,rfl⟩,.inl ⟨_,rfl,?_⟩⟩
      rw [dn_lo]
      exact last g5 he
     have t0:ia<=ia:=Nat.le_refl _
     have t1:=g1
     have t2:=g2
     have t3:∀ x,A[ia]? = some x->r y<r x:=by rw [show k=0 by omega] at nx;exact nx
     generalize hout:out=out' at t1 ⊢
     generalize hia:(ia:Nat)=ia' at t0 t1 t2 t3 ⊢
     rw [<- hia] at t0
     rotate_left
     rw [List.size_toArray,beq_iff_eq] at he he2
     have t0:ia<=ia+k:=by omega
     have t1:=g5
     have t2:ia+k+1<A.length:=by omega
     have t3:=nx
     generalize out++A.toArray.extract ia (ia+k)=out' at t1 ⊢
     generalize ia+k=ia' at t0 t1 t2 t3 ⊢
     all_goals
      obtain ⟨x,hx,Xx⟩:=getA ia' (by omega)
      have t5:=t1.pushB hx hy (Int.le_of_lt (t3 x hx))
      rw [<- Array.toList_push] at t5
      refine kasC_bind (el_is hy ?_)
      refine kasC_iteN (fun he=>?_) fun he=>?_
      rotate_left
      ·rw [List.size_toArray,beq_iff_eq] at he
       refine kasC_pure ⟨rfl,⟨_,rfl⟩,.inl ⟨_,rfl,?_⟩⟩
       rw [dn_lo]
       exact t5.endB (by omega)
      rw [List.size_toArray,beq_iff_eq] at he
      refine kasC_bind (el_is hx ?_)
      refine kasC_bind (gal_lt hC rfl (b:=ib+1) (n:=B.toArray.size - (ib+1)) (h:=0) (by rw [List.size_toArray];omega) (by rw [List.size_toArray];omega) hXB Xx (hB.part _ _) fun k' hm1 hm2=>?_)
      rw [List.size_toArray] at hm1
      dsimp only
      have u5:=t5.gallB (k:=k') hx fun j z hj hz=>Int.le_of_lt ((hm2 j z (by rw [List.size_toArray];omega) hz).mpr hj)
      have nz:∀ z,B[ib+1+k']? = some z->r x<=r z:=fun z hz=>by
       have h1:=(List.getElem?_eq_some_iff.mp hz).1
       have:=hm2 k' z (by rw [List.size_toArray];omega) hz
       omega
      have e2:(out'.push y++B.toArray.extract (ib+1) (ib+1+k')).toList=(out'.push y).toList++(B.drop (ib+1)).take k':=by rw [Array.toList_append,ext_sum]
      rw [<- e2] at u5
      refine kasC_iteN (fun hk1'=>?_) fun hk1'=>kasC_iteN (fun hb=>?_) fun hb=>?_
      rotate_left 2
      ·rw [List.size_toArray,beq_iff_eq] at hb
       refine kasC_pure ⟨rfl,⟨_,rfl⟩,.inl ⟨_,rfl,?_⟩⟩
       rw [dn_lo]
       exact u5.endB (by omega)
      have v1:=t5
      have v2:ib+1<B.length:=by omega
      have v3:∀ z,B[ib+1]? = some z->r x<=r z:=by rw [show k'=0 by omega] at nz;exact nz
      have v4:ib<ib+1:=by omega
      generalize out'.push y=ou at v1 ⊢
      generalize ib+1=jb at v1 v2 v3 v4 ⊢
      rotate_left
      rw [List.size_toArray,beq_iff_eq] at hb
      have v1:=u5
      have v2:ib+1+k'<B.length:=by omega
      have v3:=nz
      have v4:ib<ib+1+k':=by omega
      generalize out'.push y++B.toArray.extract (ib+1) (ib+1+k')=ou at v1 ⊢
      generalize ib+1+k'=jb at v1 v2 v3 v4 ⊢
      all_goals
       obtain ⟨z,hz,Xz⟩:=getB jb v2
       have v5:=v1.pushA hx hz (v3 z hz)
       rw [<- Array.toList_push] at v5
       refine kasC_bind (el_is hx ?_)
       refine kasC_iteN (fun hf=>?_) fun hf=>?_
       ·rw [List.size_toArray,beq_iff_eq] at hf
        exact kasC_iteN (fun _=>kasC_pure ⟨rfl,⟨_,rfl⟩,_,_,_,_,_,_,rfl,v5,by omega,v2,by omega⟩) fun _=>kasC_pure ⟨rfl,⟨_,rfl⟩,.inr ⟨_,_,_,_,_,_,rfl,v5,by omega,v2,by omega⟩⟩
       ·rw [List.size_toArray,beq_iff_eq] at hf
        refine kasC_pure ⟨rfl,⟨_,rfl⟩,.inl ⟨_,rfl,?_⟩⟩
        rw [dn_lo]
        exact last v5 hf
   ·obtain ⟨h1,h2⟩:=hJ
    exact ⟨h1,.inr h2⟩
   ·obtain ⟨⟨mg2,rfl⟩,hD⟩:=hD
    obtain ⟨c0,out,ia,ib,m,ac,bc⟩:=c
    dsimp only
    rcases hD with ⟨R,e,hR⟩|⟨out',ia',ib',m',ac',bc',e,hG⟩
    ·dsimp only at e
     subst e
     exact kasC_pure ⟨rfl,⟨_,rfl⟩,R,rfl,hR⟩
    cases e
    dsimp only
    exact kasC_bind (kasC_modify (kasC_pure ⟨rfl,⟨_,rfl⟩,_,_,_,_,rfl,hG⟩))
 ·obtain ⟨_,out,ia,ib,m,rfl,g1,g2,g3,g4⟩:=hI
  omega
 ·obtain ⟨⟨mg1,rfl⟩,R,e,hR⟩:=hD
  obtain ⟨c0,c1⟩:=c
  dsimp only at e ⊢
  subst e
  exact kasC_pure (q R _ hR)
end
end L3
namespace L3
open PySem L2 PySem.W PyProof.Rows
section
variable {r:Keyed->Int}{A B O:List Keyed}{na nb:Nat}
noncomputable def JH (r:Keyed->Int)(A B O:List Keyed)(na nb:Nat):Prop:=na<=A.length/\nb<=B.length/\J (fun x=>-r x) B.reverse A.reverse O (B.length - nb) (A.length - na)
theorem rev_at {l:List Keyed}{n:Nat}{x:Keyed}(h:l[n - 1]? = some x)(h1:1<=n)(h2:n<=l.length):l.reverse[l.length - n]? = some x:=by
 rw [List.getElem?_reverse (by omega),<- h]
 congr 1
 omega
theorem JH.pushA (h:JH r A B O na nb){x y:Keyed}(hx:A[na - 1]? = some x)(hy:B[nb - 1]? = some y)(h1:1<=na)(h2:1<=nb)(hl:r y<=r x):JH r A B (O++[x]) (na - 1) nb:=by
 obtain ⟨g1,g2,g3⟩:=h
 refine ⟨by omega,g2,?_⟩
 have:=g3.pushB (rev_at hy h2 g2) (rev_at hx h1 g1) (by omega)
 rw [show A.length - (na - 1)=A.length - na+1 by omega]
 exact this
theorem JH.pushB (h:JH r A B O na nb){x y:Keyed}(hx:A[na - 1]? = some x)(hy:B[nb - 1]? = some y)(h1:1<=na)(h2:1<=nb)(hl:r x<=r y):JH r A B (O++[y]) na (nb - 1):=by
 obtain ⟨g1,g2,g3⟩:=h
 refine ⟨g1,by omega,?_⟩
 have:=g3.pushA (rev_at hy h2 g2) (rev_at hx h1 g1) (by omega)
 rw [show B.length - (nb - 1)=B.length - nb+1 by omega]
 exact this
theorem rev_block {l:List Keyed}{n t:Nat}(h1:t<=n)(h2:n<=l.length):(l.reverse.drop (l.length - n)).take (n - t)=((l.drop t).take (n - t)).reverse:=by
 apply List.ext_getElem?
 intro i
 have hlen:((l.drop t).take (n - t)).length=n - t:=by rw [List.length_take,List.length_drop];omega
 by_cases h:i<n - t
 ·rw [List.getElem?_take_of_lt h,List.getElem?_drop,List.getElem?_reverse (by omega),List.getElem?_reverse (by omega),hlen,List.getElem?_take_of_lt (by omega),List.getElem?_drop]
  congr 1
  omega
 ·rw [List.getElem?_eq_none (by rw [List.length_take,List.length_drop,List.length_reverse];omega),List.getElem?_eq_none (by rw [List.length_reverse,hlen];omega)]
theorem JH.gallA (h:JH r A B O na nb){t:Nat}{y:Keyed}(hy:B[nb - 1]? = some y)(h2:1<=nb)(ht:t<=na)(hk:∀ j x,t<=j->j<na->A[j]? = some x->r y<=r x):JH r A B (O++((A.drop t).take (na - t)).reverse) t nb:=by
 obtain ⟨g1,g2,g3⟩:=h
 refine ⟨by omega,g2,?_⟩
 have:=g3.gallB (k:=na - t) (rev_at hy h2 g2) fun j z hj hz=>by
  have hz':A[A.length - 1 - (A.length - na+j)]? = some z:=by rw [<- hz,List.getElem?_reverse (by omega)]
  have:=hk _ z (by omega) (by omega) hz'
  omega
 rw [rev_block ht g1] at this
 rw [show A.length - t=A.length - na+(na - t) by omega]
 exact this
theorem JH.gallB (h:JH r A B O na nb){t:Nat}{x:Keyed}(hx:A[na - 1]? = some x)(h1:1<=na)(ht:t<=nb)(hk:∀ j y,t<=j->j<nb->B[j]? = some y->r x<=r y):JH r A B (O++((B.drop t).take (nb - t)).reverse) na t:=by
 obtain ⟨g1,g2,g3⟩:=h
 refine ⟨g1,by omega,?_⟩
 have:=g3.gallA (k:=nb - t) (rev_at hx h1 g1) fun j z hj hz=>by
  have hz':B[B.length - 1 - (B.length - nb+j)]? = some z:=by rw [<- hz,List.getElem?_reverse (by omega)]
  have:=hk _ z (by omega) (by omega) hz'
  omega
 rw [rev_block ht g2] at this
 rw [show B.length - t=B.length - nb+(nb - t) by omega]
 exact this
theorem rev_drop {l:List Keyed}{n:Nat}:l.reverse.drop (l.length - n)=(l.take n).reverse:=by
 rw [List.reverse_take]
theorem Fi.rev {R:List Keyed}(h:Fi (fun x=>-r x) B.reverse A.reverse R):Fi r A B R.reverse:=by
 refine ⟨(List.reverse_perm R).trans (h.1.trans ((List.Perm.append (List.reverse_perm B) (List.reverse_perm A)).trans List.perm_append_comm)),?_⟩
 unfold Sr
 rw [List.pairwise_reverse]
 exact h.2.imp fun {x y} h=>by dsimp only at h;omega
theorem JH.endA (h:JH r A B O na nb)(hn:na=0):Fi r A B (A.take na++B.take nb++O.reverse):=by
 obtain ⟨g1,g2,g3⟩:=h
 have:=(g3.endB (by rw [List.length_reverse];omega)).rev
 rw [rev_drop,rev_drop] at this
 simpa using this
theorem JH.endB (h:JH r A B O na nb)(hn:nb=0):Fi r A B (A.take na++B.take nb++O.reverse):=by
 obtain ⟨g1,g2,g3⟩:=h
 have:=(g3.endA (by rw [List.length_reverse];omega)).rev
 rw [rev_drop,rev_drop] at this
 simpa using this
theorem JH.last (h:JH r A B O na nb)(hn:nb=1)(hf:∀ y,B[0]? = some y->∀ x∈A,r y<=r x):Fi r A B (B.take nb++A.take na++O.reverse):=by
 obtain ⟨g1,g2,g3⟩:=h
 have:=(g3.last (by rw [List.length_reverse];omega) fun y hy x hx=>by
  have hy':B[0]? = some y:=by rw [<- hy,List.getElem?_reverse (by omega)];congr 1;omega
  have:=hf y hy' x (List.mem_reverse.mp hx)
  omega).rev
 rw [rev_drop,rev_drop] at this
 simpa using this
variable {prog:Program}{w:World}{A₀:Around}{E:Value->Shared->Prop}{κ:SortKind}{s:Shared}{X:Keyed->Prop}
theorem dn_hi (out:Array Keyed)(i j:Nat):(A.toArray.extract 0 i++B.toArray.extract 0 j++out.reverse).toList=A.take i++B.take j++out.toList.reverse:=by
 rw [Array.toList_append,Array.toList_append,ext_part,ext_part,Array.toList_reverse,List.drop_zero,List.drop_zero,Nat.sub_zero,Nat.sub_zero]
theorem ext_rev (out:Array Keyed)(A:List Keyed)(t n:Nat):(out++(A.toArray.extract t n).reverse).toList=out.toList++((A.drop t).take (n - t)).reverse:=by
 rw [Array.toList_append,Array.toList_reverse,ext_part]
noncomputable def GoH (r:Keyed->Int)(A B:List Keyed)(n:Nat)(out:Array Keyed)(na nb:Nat):Prop:=JH r A B out.toList na nb/\1<=na/\2<=nb/\n+na+nb<=A.length+B.length
theorem hi_m (hC:Cmp prog w A₀ κ s X (lr r))(hXA:∀ x∈A,X x)(hXB:∀ x∈B,X x)(hA:Sr r A)(hB:Sr r B)(hA0:0<A.length)(hB0:0<B.length)(hf:∀ y,B[0]? = some y->∀ x∈A,r y<=r x)(hl:∀ x,A[A.length - 1]? = some x->∀ y∈B,r y<=r x)
  {ar:Array Keyed}{pd:Array (Nat×Nat×Nat)}{mg:Nat}{Q:Array Keyed->SortSt->Shared->Prop}(q:∀ R mg',Fi r A B R.toList->Q R (SortSt.mk' κ ar pd mg' none) s) :
  kasC (model prog w) A₀ E (mrgHi A.toArray B.toArray) Q (SortSt.mk' κ ar pd mg none) s:=by
 have getA:∀ i,i<A.length->∃ x,A[i]? = some x/\X x:=fun i hi=>⟨A[i],List.getElem?_eq_getElem hi,hXA _ (List.getElem_mem hi)⟩
 have getB:∀ i,i<B.length->∃ x,B[i]? = some x/\X x:=fun i hi=>⟨B[i],List.getElem?_eq_getElem hi,hXB _ (List.getElem_mem hi)⟩
 unfold mrgHi
 refine kasC_bind (kasC_lift (wpAny_rule ?_))
 obtain ⟨x0,hx0,_⟩:=getA (A.length - 1) (by omega)
 refine kasC_bind (el_is (by rw [List.size_toArray];exact hx0) ?_)
 have j0:JH r A B [x0] (A.length - 1) B.length:=by
  refine ⟨by omega,Nat.le_refl _,?_⟩
  have e:A.reverse=x0::A.reverse.drop 1:=by
   have:=drop_cons (l:=A.reverse) (i:=0) (x:=x0) (by rw [List.getElem?_reverse (by omega)];exact hx0)
   rwa [List.drop_zero] at this
  rw [Nat.sub_self,show A.length - (A.length - 1)=1 by omega]
  refine ⟨?_,?_,?_⟩
  ·unfold Sr
   rw [List.drop_zero]
   show (x0::B.reverse).Pairwise _
   rw [List.pairwise_cons]
   refine ⟨fun y hy=>?_,?_⟩
   ·have:=hl x0 hx0 y (List.mem_reverse.mp hy)
    dsimp only
    omega
   ·rw [List.pairwise_reverse]
    exact hB.imp fun {x y} h=>by dsimp only;omega
  ·show Sr _ (x0::A.reverse.drop 1)
   rw [<- e]
   unfold Sr
   rw [List.pairwise_reverse]
   exact hA.imp fun {x y} h=>by dsimp only;omega
  ·rw [List.take_zero,List.nil_append,e]
   exact List.Perm.refl _
 dsimp only
 rw [List.size_toArray,List.size_toArray]
 refine kasC_iteN (fun h1=>kasC_iteN (fun h2=>?_) fun h2=>?_) fun h1=>?_
 rotate_left
 ·rw [beq_iff_eq] at h2
  refine kasC_pure (q _ _ ?_)
  rw [dn_hi]
  exact j0.last h2 hf
 ·rw [beq_iff_eq] at h1
  refine kasC_pure (q _ _ ?_)
  rw [dn_hi]
  exact j0.endA h1
 rw [beq_iff_eq] at h1 h2
 refine kasC_bind (kasC_get ?_)
 refine kasC_bind (kasC_range (kasC_loopS (fun i c st=>(∃ mg',st=SortSt.mk' κ ar pd mg' none)/\∃ na nb out m,c=(none,na,nb,out,m)/\GoH r A B (i+1) out na nb) (fun c st=>(∃ mg',st=SortSt.mk' κ ar pd mg' none)/\∃ R:Array Keyed,c.1=some R/\Fi r A B R.toList) 0 (A.length+B.length) (fun i c st hi hI=>?_) (fun c st hI=>?_) (fun c st hD=>?_) (A.length+B.length - 0) 0 _ _ (by omega) ⟨⟨_,rfl⟩,_,_,_,_,rfl,j0,by omega,by omega,by omega⟩))
 ·obtain ⟨⟨mg1,rfl⟩,na,nb,out,m,rfl,hG⟩:=hI
  dsimp only
  refine kasC_bind (kasC_range (kasC_loopS (fun j c st=>st=SortSt.mk' κ ar pd mg1 none/\∃ na nb out ac bc,c=(none,na,nb,out,ac,bc)/\GoH r A B (i+1+j) out na nb) (fun c st=>st=SortSt.mk' κ ar pd mg1 none/\((∃ R:Array Keyed,c.1=some R/\Fi r A B R.toList)\/∃ na nb out ac bc,c=(none,na,nb,out,ac,bc)/\GoH r A B (i+2) out na nb)) 0 (A.length+B.length) (fun j c st hj hJ=>?_) (fun c st hJ=>?_) (fun c st hD=>?_) (A.length+B.length - 0) 0 _ _ (by omega) ⟨rfl,_,_,_,_,_,rfl,hG⟩))
  ·obtain ⟨rfl,na,nb,out,ac,bc,rfl,g1,g2,g3,g4⟩:=hJ
   dsimp only
   have l1:=g1.1
   have l2:=g1.2.1
   obtain ⟨x,hx,Xx⟩:=getA (na - 1) (by omega)
   obtain ⟨y,hy,Xy⟩:=getB (nb - 1) (by omega)
   refine kasC_bind (el_is hy (kasC_bind (el_is hx (kasC_bind (lt_is hC rfl Xy Xx ?_)))))
   dsimp only
   refine kasC_iteN (fun hc=>?_) fun hc=>?_
   ·unfold lr at hc
    rw [decide_eq_true_eq] at hc
    have g5:=g1.pushB hx hy (by omega) (by omega) (by omega)
    rw [<- Array.toList_push] at g5
    refine kasC_bind (el_is hy ?_)
    refine kasC_iteN (fun he=>?_) fun he=>?_
    ·rw [beq_iff_eq] at he
     exact kasC_iteN (fun _=>kasC_pure ⟨rfl,rfl,_,_,_,_,_,rfl,g5,by omega,by omega,by omega⟩) fun _=>kasC_pure ⟨rfl,rfl,.inr ⟨_,_,_,_,_,rfl,g5,by omega,by omega,by omega⟩⟩
    ·rw [beq_iff_eq] at he
     refine kasC_pure ⟨rfl,rfl,.inl ⟨_,rfl,?_⟩⟩
     rw [dn_hi]
     exact g5.last he hf
   ·unfold lr at hc
    rw [decide_eq_true_eq] at hc
    have g5:=g1.pushA hx hy (by omega) (by omega) (by omega)
    rw [<- Array.toList_push] at g5
    refine kasC_bind (el_is hx ?_)
    refine kasC_iteN (fun he=>?_) fun he=>?_
    ·rw [beq_iff_eq] at he
     exact kasC_iteN (fun _=>kasC_pure ⟨rfl,rfl,_,_,_,_,_,rfl,g5,by omega,by omega,by omega⟩) fun _=>kasC_pure ⟨rfl,rfl,.inr ⟨_,_,_,_,_,rfl,g5,by omega,by omega,by omega⟩⟩
    ·rw [beq_iff_eq] at he
     refine kasC_pure ⟨rfl,rfl,.inl ⟨_,rfl,?_⟩⟩
     rw [dn_hi]
     exact g5.endA he
  ·obtain ⟨rfl,na,nb,out,ac,bc,rfl,g1,g2,g3,g4⟩:=hJ
   exact ⟨rfl,.inr ⟨_,_,_,_,_,rfl,g1,g2,g3,by omega⟩⟩
  ·obtain ⟨rfl,hD⟩:=hD
   obtain ⟨c0,na,nb,out,ac,bc⟩:=c
   dsimp only
   rcases hD with ⟨R,e,hR⟩|⟨na',nb',out',ac',bc',e,hG⟩
   ·dsimp only at e
    subst e
    exact kasC_pure ⟨rfl,⟨_,rfl⟩,R,rfl,hR⟩
   cases e
   dsimp only
   refine kasC_bind (kasC_lift (wpAny_rule ?_))
   refine kasC_bind (kasC_range (kasC_loopS (fun j c st=>(∃ mg',st=SortSt.mk' κ ar pd mg' none)/\∃ na nb out m ac bc,c=(none,na,nb,out,m,ac,bc)/\GoH r A B (i+2) out na nb) (fun c st=>(∃ mg',st=SortSt.mk' κ ar pd mg' none)/\((∃ R:Array Keyed,c.1=some R/\Fi r A B R.toList)\/∃ na nb out m ac bc,c=(none,na,nb,out,m,ac,bc)/\GoH r A B (i+2) out na nb)) 0 (A.length+B.length) (fun j c st hj hJ=>?_) (fun c st hJ=>?_) (fun c st hD=>?_) (A.length+B.length - 0) 0 _ _ (by omega) ⟨⟨_,rfl⟩,_,_,_,_,_,_,rfl,hG⟩))
   ·obtain ⟨⟨mg2,rfl⟩,na,nb,out,m,ac,bc,rfl,g1,g2,g3,g4⟩:=hJ
    dsimp only
    have l1:=g1.1
    have l2:=g1.2.1
    obtain ⟨y,hy,Xy⟩:=getB (nb - 1) (by omega)
    refine kasC_iteN (fun hm=>?_) fun hm=>?_
    all_goals
     refine kasC_bind (kasC_modify ?_)
     refine kasC_bind (el_is hy ?_)
     refine kasC_bind (gal_le hC rfl (b:=0) (n:=na) (h:=na - 1) (by omega) (by omega) hXA Xy (hA.part _ _) fun t ht1 ht2=>?_)
     dsimp only
     have g5:=g1.gallA (t:=t) hy (by omega) ht1 fun j x h1 h2 hx=>by
      have:=ht2 j x h2 (by rw [Nat.zero_add];exact hx)
      omega
     have nx:∀ x,1<=t->A[t - 1]? = some x->r x<=r y:=fun x h1 hx=>(ht2 (t - 1) x (by omega) (by rw [Nat.zero_add];exact hx)).mpr (by omega)
     rw [<- ext_rev] at g5
     refine kasC_iteN (fun hk0=>?_) fun hk0=>kasC_iteN (fun he=>?_) fun he=>?_
     rotate_left 2
     ·rw [beq_iff_eq] at he
      refine kasC_pure ⟨rfl,⟨_,rfl⟩,.inl ⟨_,rfl,?_⟩⟩
      rw [dn_hi]
      exact g5.endA he
     have t0:na<=na:=Nat.le_refl _
     have t1:=g1
     have t2:=g2
     have t3:∀ x,A[na - 1]? = some x->r x<=r y:=fun x hx=>by
      have e:t=na:=by omega
      rw [e] at nx
      exact nx x g2 hx
     generalize hout:out=ou at t1 ⊢
     generalize hna:(na:Nat)=n1 at t0 t1 t2 t3 ⊢
     rw [<- hna] at t0
     rotate_left
     rw [beq_iff_eq] at he
     have t0:t<=na:=ht1
     have t1:=g5
     have t2:1<=t:=by omega
     have t3:∀ x,A[t - 1]? = some x->r x<=r y:=fun x hx=>nx x t2 hx
     generalize out++(A.toArray.extract t na).reverse=ou at t1 ⊢
     generalize ht':(t:Nat)=n1 at t0 t1 t2 t3 ⊢
     all_goals
      obtain ⟨x,hx,Xx⟩:=getA (n1 - 1) (by omega)
      have t5:=t1.pushB hx hy t2 (by omega) (t3 x hx)
      rw [<- Array.toList_push] at t5
      refine kasC_bind (el_is hy ?_)
      refine kasC_iteN (fun hq=>?_) fun hq=>?_
      rotate_left
      ·rw [beq_iff_eq] at hq
       refine kasC_pure ⟨rfl,⟨_,rfl⟩,.inl ⟨_,rfl,?_⟩⟩
       rw [dn_hi]
       exact t5.last hq hf
      rw [beq_iff_eq] at hq
      refine kasC_bind (el_is hx ?_)
      refine kasC_bind (gal_lt hC rfl (b:=0) (n:=nb - 1) (h:=nb - 1 - 1) (by omega) (by omega) hXB Xx (hB.part _ _) fun u hu1 hu2=>?_)
      dsimp only
      have u5:=t5.gallB (t:=u) hx t2 hu1 fun j z h1 h2 hz=>by
       have:=hu2 j z h2 (by rw [Nat.zero_add];exact hz)
       omega
      have nz:∀ z,1<=u->B[u - 1]? = some z->r z<=r x:=fun z h1 hz=>Int.le_of_lt ((hu2 (u - 1) z (by omega) (by rw [Nat.zero_add];exact hz)).mpr (by omega))
      rw [<- ext_rev] at u5
      refine kasC_iteN (fun hk1=>?_) fun hk1=>kasC_iteN (fun hb1=>kasC_iteN (fun hb2=>?_) fun hb2=>?_) fun hb1=>?_
      rotate_left 2
      ·rw [beq_iff_eq] at hb2
       refine kasC_pure ⟨rfl,⟨_,rfl⟩,.inl ⟨_,rfl,?_⟩⟩
       rw [dn_hi]
       exact u5.endB hb2
      ·rw [beq_iff_eq] at hb1
       refine kasC_pure ⟨rfl,⟨_,rfl⟩,.inl ⟨_,rfl,?_⟩⟩
       rw [dn_hi]
       exact u5.last hb1 hf
      have v0:nb - 1<nb:=by omega
      have v1:=t5
      have v2:2<=nb - 1:=by omega
      have v3:∀ z,B[nb - 1 - 1]? = some z->r z<=r x:=fun z hz=>by
       have e:u=nb - 1:=by omega
       rw [e] at nz
       exact nz z (by omega) hz
      generalize ou.push y=oz at v1 ⊢
      generalize nb - 1=n2 at v0 v1 v2 v3 ⊢
      rotate_left
      rw [beq_iff_eq] at hb1 hb2
      have v0:u<nb:=by omega
      have v1:=u5
      have v2:2<=u:=by omega
      have v3:∀ z,B[u - 1]? = some z->r z<=r x:=fun z hz=>nz z (by omega) hz
      generalize ou.push y++(B.toArray.extract u (nb - 1)).reverse=oz at v1 ⊢
      generalize hu':(u:Nat)=n2 at v0 v1 v2 v3 ⊢
      all_goals
       have l3:=v1.2.1
       obtain ⟨z,hz,Xz⟩:=getB (n2 - 1) (by omega)
       have v5:=v1.pushA hx hz t2 (by omega) (v3 z hz)
       rw [<- Array.toList_push] at v5
       refine kasC_bind (el_is hx ?_)
       refine kasC_iteN (fun hw=>?_) fun hw=>?_
       ·rw [beq_iff_eq] at hw
        exact kasC_iteN (fun _=>kasC_pure ⟨rfl,⟨_,rfl⟩,_,_,_,_,_,_,rfl,v5,by omega,v2,by omega⟩) fun _=>kasC_pure ⟨rfl,⟨_,rfl⟩,.inr ⟨_,_,_,_,_,_,rfl,v5,by omega,v2,by omega⟩⟩
       ·rw [beq_iff_eq] at hw
        refine kasC_pure ⟨rfl,⟨_,rfl⟩,.inl ⟨_,rfl,?_⟩⟩
        rw [dn_hi]
        exact v5.endA hw
   ·obtain ⟨h1,h2⟩:=hJ
    exact ⟨h1,.inr h2⟩
   ·obtain ⟨⟨mg2,rfl⟩,hD⟩:=hD
    obtain ⟨c0,na,nb,out,m,ac,bc⟩:=c
    dsimp only
    rcases hD with ⟨R,e,hR⟩|⟨na',nb',out',m',ac',bc',e,hG⟩
    ·dsimp only at e
     subst e
     exact kasC_pure ⟨rfl,⟨_,rfl⟩,R,rfl,hR⟩
    cases e
    dsimp only
    exact kasC_bind (kasC_modify (kasC_pure ⟨rfl,⟨_,rfl⟩,_,_,_,_,rfl,hG⟩))
 ·obtain ⟨_,na,nb,out,m,rfl,g1,g2,g3,g4⟩:=hI
  omega
 ·obtain ⟨⟨mg1,rfl⟩,R,e,hR⟩:=hD
  obtain ⟨c0,c1⟩:=c
  dsimp only at e ⊢
  subst e
  exact kasC_pure (q R _ hR)
end
end L3
namespace L3
open PySem L2 PySem.W PyProof.Rows
section
variable {prog:Program}{w:World}{A₀:Around}{E:Value->Shared->Prop}{κ:SortKind}{s:Shared}{X:Keyed->Prop}{r:Keyed->Int}{P S c1 c2:List Keyed}
theorem at_1 {i:Nat}(h:i<c1.length):(P++c1++c2++S)[P.length+i]? = c1[i]?:=by
 rw [List.append_assoc,List.append_assoc,List.getElem?_append_right (by omega),List.getElem?_append_left (by omega)]
 congr 1;omega
theorem at_2 {i:Nat}(h:i<c2.length):(P++c1++c2++S)[P.length+c1.length+i]? = c2[i]?:=by
 rw [List.append_assoc,List.getElem?_append_right (by rw [List.length_append];omega),List.getElem?_append_left (by rw [List.length_append];omega)]
 congr 1;rw [List.length_append];omega
theorem part_1:((P++c1++c2++S).drop P.length).take c1.length=c1:=by
 rw [List.append_assoc,List.append_assoc,List.drop_left,List.take_left]
theorem part_2:((P++c1++c2++S).drop (P.length+c1.length)).take c2.length=c2:=by
 rw [List.append_assoc,List.drop_left' (by rw [List.length_append]),List.take_left]
theorem ext_1 {k:Nat}(hk:k<=c1.length):(P++c1++c2++S).toArray.extract (P.length+k) (P.length+c1.length)=(c1.drop k).toArray:=by
 apply Array.toList_inj.mp
 rw [ext_part,<- List.drop_drop,List.append_assoc,List.append_assoc,List.drop_left,List.drop_append_of_le_length hk,List.toList_toArray,List.take_left' (by rw [List.length_drop];omega)]
theorem ext_2 {k:Nat}(hk:k<=c2.length):(P++c1++c2++S).toArray.extract (P.length+c1.length) (P.length+c1.length+k)=(c2.take k).toArray:=by
 apply Array.toList_inj.mp
 rw [ext_sum,List.append_assoc,List.drop_left' (by rw [List.length_append]),List.toList_toArray,List.take_append_of_le_length hk]
theorem put_mid {k l:Nat}{R:List Keyed}(hk:k<=c1.length)(hl:l<=c2.length)(hR:R.length=c1.length - k+l):(R.zipIdx.foldl (fun (a:Array Keyed)(x:Keyed×Nat)=>a.setIfInBounds (P.length+k+x.2) x.1) (P++c1++c2++S).toArray)=(P++(c1.take k++R++c2.drop l)++S).toArray:=by
 apply Array.toList_inj.mp
 have:=putBk R (P++c1++c2++S).toArray (P.length+k) 0 (by simp;omega)
 rw [this,List.toList_toArray,List.toList_toArray,Nat.add_zero,hR]
 have e1:(P++c1++c2++S).take (P.length+k)=P++c1.take k:=by
  rw [List.append_assoc,List.append_assoc,List.take_append,List.take_of_length_le (by omega),Nat.add_sub_cancel_left,List.take_append_of_le_length hk]
 have e2:(P++c1++c2++S).drop (P.length+k+(c1.length - k+l))=c2.drop l++S:=by
  rw [show P.length+k+(c1.length - k+l)=(P++c1).length+l by rw [List.length_append];omega,List.append_assoc,<- List.drop_drop,List.drop_left,List.drop_append_of_le_length hl]
 rw [e1,e2]
 simp
theorem Sr.both {U R V:List Keyed}(hR:Sr r R)(hU:Sr r U)(hV:Sr r V)(h1:∀ x∈U,∀ y∈R,r x<=r y)(h2:∀ x∈R,∀ y∈V,r x<=r y)(h3:∀ x∈U,∀ y∈V,r x<=r y):Sr r (U++R++V):=by
 unfold Sr at *
 rw [List.append_assoc,List.pairwise_append]
 refine ⟨hU,?_,fun x hx y hy=>?_⟩
 ·rw [List.pairwise_append]
  exact ⟨hR,hV,h2⟩
 ·rcases List.mem_append.mp hy with hy|hy
  ·exact h1 x hx y hy
  ·exact h3 x hx y hy
theorem Sr.at {l:List Keyed}(h:Sr r l){i j:Nat}{x y:Keyed}(hij:i<=j)(hx:l[i]? = some x)(hy:l[j]? = some y):r x<=r y:=by
 obtain ⟨h1,rfl⟩:=List.getElem?_eq_some_iff.mp hx
 obtain ⟨h2,rfl⟩:=List.getElem?_eq_some_iff.mp hy
 by_cases e:i=j
 ·subst e;exact Int.le_refl _
 ·exact List.pairwise_iff_getElem.mp h i j h1 h2 (by omega)
theorem mem_take_at {l:List Keyed}{k:Nat}{x:Keyed}(h:x∈l.take k):∃ j,j<k/\l[j]? = some x:=by
 have:=mem_block (l:=l) (i:=0) (k:=k) (x:=x) (by rw [List.drop_zero];exact h)
 obtain ⟨j,h1,h2⟩:=this
 exact ⟨j,h1,by rw [Nat.zero_add] at h2;exact h2⟩
theorem mem_drop_at {l:List Keyed}{k:Nat}{x:Keyed}(h:x∈l.drop k):∃ j,k<=j/\l[j]? = some x:=by
 obtain ⟨j,hj,e⟩:=List.getElem_of_mem h
 exact ⟨k+j,by omega,by rw [<- e,List.getElem_drop,List.getElem?_eq_getElem]⟩
theorem mat (hC:Cmp prog w A₀ κ s X (lr r))(hX:∀ x∈P++c1++c2++S,X x)(h1:Sr r c1)(h2:Sr r c2)(l1:0<c1.length)(l2:0<c2.length){pd:Array (Nat×Nat×Nat)}{mg i w1 w2:Nat}(p1:pd[i]? = some (P.length,c1.length,w1))(p2:pd[i+1]? = some (P.length+c1.length,c2.length,w2))
  {Q:Bool->SortSt->Shared->Prop}(q:∀ c mg',Sr r c->c.Perm (c1++c2)->Q true (SortSt.mk' κ (P++c++S).toArray ((pd.setIfInBounds i (P.length,c1.length+c2.length,w1)).eraseIdxIfInBounds (i+1)) mg' none) s) :
  kasC (model prog w) A₀ E (mergeAt' i) Q (SortSt.mk' κ (P++c1++c2++S).toArray pd mg none) s:=by
 unfold mergeAt'
 refine kasC_bind (kasC_get ?_)
 dsimp only
 simp only [p1,p2]
 refine kasC_bind (set_is ?_)
 have gA:∀ j,j<c1.length->c1[j]? = some (c1.getD j (.none,.none)):=fun j hj=>by
  rw [List.getD_eq_getElem?_getD,List.getElem?_eq_getElem hj];rfl
 have gB:∀ j,j<c2.length->c2[j]? = some (c2.getD j (.none,.none)):=fun j hj=>by
  rw [List.getD_eq_getElem?_getD,List.getElem?_eq_getElem hj];rfl
 have hX1:∀ x∈c1,X x:=fun x hx=>hX x (by simp [hx])
 have hX2:∀ x∈c2,X x:=fun x hx=>hX x (by simp [hx])
 have hlen:(P++c1++c2++S).length=P.length+c1.length+c2.length+S.length:=by simp;omega
 have b0:=gB 0 l2
 refine kasC_bind (el_is (x:=c2.getD 0 (.none,.none)) (by rw [<- b0];exact at_2 l2) ?_)
 refine kasC_bind (gal_le hC rfl (b:=P.length) (n:=c1.length) (h:=0) l1 (by omega) hX (hX2 _ (List.mem_of_getElem? b0)) (by rw [part_1];exact h1) fun k hk1 hk2=>?_)
 have hk3:∀ j x,c1[j]? = some x->(r x<=r (c2.getD 0 (.none,.none))↔j<k):=fun j x hx=>by
  have hj:=(List.getElem?_eq_some_iff.mp hx).1
  exact hk2 j x hj (by rw [at_1 hj];exact hx)
 generalize c2.getD 0 (.none,.none)=y0 at *
 dsimp only
 have e0:(P++c1++c2++S)=P++(c1++c2)++S:=by simp
  -- all as it is
 have same:(∀ x∈c1,∀ y∈c2,r x<=r y)->Q true (SortSt.mk' κ (P++c1++c2++S).toArray ((pd.setIfInBounds i (P.length,c1.length+c2.length,w1)).eraseIdxIfInBounds (i+1)) mg none) s:=fun h=>by
  rw [e0]
  exact q _ _ (by unfold Sr at *;rw [List.pairwise_append];exact ⟨h1,h2,h⟩) (List.Perm.refl _)
 refine kasC_iteN (fun he=>?_) fun he=>?_
 rotate_left
 ·rw [beq_iff_eq] at he
  refine kasC_pure (same fun x hx y hy=>?_)
  obtain ⟨j,hj⟩:=List.getElem?_of_mem hx
  obtain ⟨j',hj'⟩:=List.getElem?_of_mem hy
  have a1:=(hk3 j x hj).mpr (by have:=(List.getElem?_eq_some_iff.mp hj).1;omega)
  have a2:=h2.at (Nat.zero_le j') b0 hj'
  omega
 rw [beq_iff_eq] at he
 have z0:=gA (c1.length - 1) (by omega)
 generalize c1.getD (c1.length - 1) (.none,.none)=x1 at *
 refine kasC_bind (el_is (x:=x1) (by rw [show P.length+k+(c1.length - k) - 1=P.length+(c1.length - 1) by omega,at_1 (by omega)];exact z0) ?_)
 refine kasC_bind (gal_lt hC rfl (b:=P.length+c1.length) (n:=c2.length) (h:=c2.length - 1) (by omega) (by omega) hX (hX1 _ (List.mem_of_getElem? z0)) (by rw [part_2];exact h2) fun l hl1 hl2=>?_)
 have hl3:∀ j x,c2[j]? = some x->(r x<r x1↔j<l):=fun j x hx=>by
  have hj:=(List.getElem?_eq_some_iff.mp hx).1
  exact hl2 j x hj (by rw [at_2 hj];exact hx)
 dsimp only
 refine kasC_iteN (fun hf=>?_) fun hf=>?_
 rotate_left
 ·rw [beq_iff_eq] at hf
  refine kasC_pure (same fun x hx y hy=>?_)
  obtain ⟨j,hj⟩:=List.getElem?_of_mem hx
  obtain ⟨j',hj'⟩:=List.getElem?_of_mem hy
  have a1:=h1.at (by have:=(List.getElem?_eq_some_iff.mp hj).1;omega) hj z0
  have a2:=hl3 j' y hj'
  omega
 rw [beq_iff_eq] at hf
 rw [ext_1 hk1,ext_2 hl1]
 have hA:Sr r (c1.drop k):=List.Pairwise.sublist (List.drop_sublist _ _) h1
 have hB:Sr r (c2.take l):=List.Pairwise.sublist (List.take_sublist _ _) h2
 have hf1:∀ y,(c2.take l)[0]? = some y->∀ x∈c1.drop k,r y<=r x:=fun y hy x hx=>by
  rw [List.getElem?_take_of_lt (by omega),b0] at hy
  cases hy
  obtain ⟨j,hj,e⟩:=mem_drop_at hx
  have:=hk3 j x e
  omega
 have hl4:∀ x,(c1.drop k)[(c1.drop k).length - 1]? = some x->∀ y∈c2.take l,r y<=r x:=fun x hx y hy=>by
  rw [List.length_drop,List.getElem?_drop,show k+(c1.length - k - 1)=c1.length - 1 by omega,z0] at hx
  cases hx
  obtain ⟨j,hj,e⟩:=mem_take_at hy
  have:=hl3 j y e
  omega
 have done:∀ (R:Array Keyed)(mg':Nat),Fi r (c1.drop k) (c2.take l) R.toList->Q true (SortSt.mk' κ (R.toList.zipIdx.foldl (fun (a:Array Keyed)(x:Keyed×Nat)=>a.setIfInBounds (P.length+k+x.2) x.1) (P++c1++c2++S).toArray) ((pd.setIfInBounds i (P.length,c1.length+c2.length,w1)).eraseIdxIfInBounds (i+1)) mg' none) s:=fun R mg' hR=>by
  obtain ⟨f1,f2⟩:=hR
  have hRl:=f1.length_eq
  rw [List.length_append,List.length_drop,List.length_take] at hRl
  rw [put_mid hk1 hl1 (by omega)]
  have inR:∀ z∈R.toList,z∈c1.drop k\/z∈c2.take l:=fun z hz=>List.mem_append.mp (f1.mem_iff.mp hz)
  refine q _ _ (f2.both (List.Pairwise.sublist (List.take_sublist _ _) h1) (List.Pairwise.sublist (List.drop_sublist _ _) h2) (fun x hx y hy=>?_) (fun x hx y hy=>?_) fun x hx y hy=>?_) ?_
  ·obtain ⟨j,hj,e⟩:=mem_take_at hx
   rcases inR y hy with hy|hy
   ·obtain ⟨j',hj',e'⟩:=mem_drop_at hy
    exact h1.at (by omega) e e'
   ·obtain ⟨j',hj',e'⟩:=mem_take_at hy
    have a1:=(hk3 j x e).mpr hj
    have a2:=h2.at (Nat.zero_le j') b0 e'
    omega
  ·obtain ⟨j',hj',e'⟩:=mem_drop_at hy
   rcases inR x hx with hx|hx
   ·obtain ⟨j,hj,e⟩:=mem_drop_at hx
    have a1:=h1.at (by have:=(List.getElem?_eq_some_iff.mp e).1;omega) e z0
    have a2:=hl3 j' y e'
    omega
   ·obtain ⟨j,hj,e⟩:=mem_take_at hx
    exact h2.at (by omega) e e'
  ·obtain ⟨j,hj,e⟩:=mem_take_at hx
   obtain ⟨j',hj',e'⟩:=mem_drop_at hy
   have a1:=(hk3 j x e).mpr hj
   have a2:=h2.at (Nat.zero_le j') b0 e'
   omega
  ·have e1:c1++c2=c1.take k++(c1.drop k++c2.take l)++c2.drop l:=by
    rw [<- List.append_assoc,List.take_append_drop,List.append_assoc,List.take_append_drop]
   rw [e1]
   exact ((f1.append_left _).append_right _)
 have d1:0<(c1.drop k).length:=by rw [List.length_drop];omega
 have d2:0<(c2.take l).length:=by rw [List.length_take];omega
 refine kasC_iteN (fun _=>?_) fun _=>?_
 ·exact kasC_bind (hi_m hC (fun x hx=>hX1 x (List.mem_of_mem_drop hx)) (fun x hx=>hX2 x (List.mem_of_mem_take hx)) hA hB d1 d2 hf1 hl4 fun R mg' hR=>kasC_bind (kasC_modify (kasC_bind (kasC_get (kasC_pure (done R mg' hR))))))
 ·exact kasC_bind (lo_m hC (fun x hx=>hX1 x (List.mem_of_mem_drop hx)) (fun x hx=>hX2 x (List.mem_of_mem_take hx)) hA hB d1 d2 hf1 hl4 fun R mg' hR=>kasC_bind (kasC_modify (kasC_bind (kasC_get (kasC_pure (done R mg' hR))))))
end
end L3
namespace L3
open PySem L2 PySem.W PyProof.Rows
section
variable {prog:Program}{w:World}{A₀:Around}{E:Value->Shared->Prop}{κ:SortKind}{s:Shared}{X:Keyed->Prop}{r:Keyed->Int}{P T S:List Keyed}{pd:Array (Nat×Nat×Nat)}{mg:Nat}
noncomputable def kr (r:Keyed->Int)(T:List Keyed)(i:Nat):Int:=r (T.getD i (.none,.none))
theorem kr_at {i:Nat}{x:Keyed}(h:T[i]? = some x):kr r T i=r x:=by
 unfold kr
 rw [List.getD_eq_getElem?_getD,h]
 rfl
theorem at_kr {i:Nat}(h:i<T.length):T[i]? = some (T.getD i (.none,.none)):=by
 rw [List.getD_eq_getElem?_getD,List.getElem?_eq_getElem h];rfl
theorem lt_T (hC:Cmp prog w A₀ κ s X (lr r))(hX:∀ x∈T,X x){i j:Nat}(hi:i<T.length)(hj:j<T.length){Q:Option Bool->SortSt->Shared->Prop}(q:Q (some (decide (kr r T i<kr r T j))) (SortSt.mk' κ (P++T).toArray pd mg none) s) :
  kasC (model prog w) A₀ E (ltAt' (P.length+i) (P.length+j)) Q (SortSt.mk' κ (P++T).toArray pd mg none) s:=by
 have e:∀ i,i<T.length->(arrOf (SortSt.mk' κ (P++T).toArray pd mg none))[P.length+i]? = some (T.getD i (.none,.none)):=fun i hi=>by
  show (P++T).toArray[P.length+i]? = _
  rw [List.getElem?_toArray,List.getElem?_append_right (by omega),Nat.add_sub_cancel_left]
  exact at_kr hi
 exact lt_at hC rfl (e i hi) (e j hj) (hX _ (List.mem_of_getElem? (at_kr hi))) (hX _ (List.mem_of_getElem? (at_kr hj))) q
theorem kr_mono {n:Nat}(h:∀ j,j+1<n->kr r T j<=kr r T (j+1)):∀ {i j:Nat},i<=j->j<n->kr r T i<=kr r T j
 | i,0,h1,_=>by rw [Nat.le_zero.mp h1];exact Int.le_refl _
 | i,j+1,h1,h2=>by
  by_cases e:i=j+1
  ·rw [e];exact Int.le_refl _
  ·have a:=kr_mono h (i:=i) (j:=j) (by omega) (by omega)
   have b:=h j h2
   omega
theorem Sr_of {n:Nat}(hn:n<=T.length)(h:∀ j,j+1<n->kr r T j<=kr r T (j+1)):Sr r (T.take n):=by
 refine List.pairwise_iff_getElem.mpr fun i j hi hj hij=>?_
 rw [List.length_take] at hi hj
 have:=kr_mono h (i:=i) (j:=j) (by omega) (by omega)
 rw [kr_at (List.getElem?_eq_getElem (show i<T.length by omega)),kr_at (List.getElem?_eq_getElem (show j<T.length by omega))] at this
 rw [List.getElem_take,List.getElem_take]
 exact this
theorem mirror_part (P U V:List Keyed):mirror (P++U++V).toArray P.length (P.length+U.length) ((P.length+U.length - P.length) / 2)=(P++U.reverse++V).toArray:=by
 apply Array.toList_inj.mp
 apply List.ext_getElem?
 intro k
 rw [Array.getElem?_toList,getElem?_mirror_all (by simp),List.toList_toArray]
 by_cases h:P.length<=k/\k<P.length+U.length
 ·have e1:∀ (W:List Keyed)(m:Nat),W.length=U.length->P.length<=m->m<P.length+U.length->(P++W++V)[m]? = W[m - P.length]?:=fun W m hW h1 h2=>by
   rw [List.append_assoc,List.getElem?_append_right h1,List.getElem?_append_left (by omega)]
  rw [if_pos h,List.getElem?_toArray,e1 U _ rfl (by omega) (by omega),e1 U.reverse k (by rw [List.length_reverse]) h.1 h.2,List.getElem?_reverse (by omega)]
  congr 1
  omega
 ·rw [if_neg h,List.getElem?_toArray]
  by_cases h1:k<P.length
  ·rw [List.append_assoc,List.append_assoc,List.getElem?_append_left h1,List.getElem?_append_left h1]
  ·rw [List.getElem?_append_right (by rw [List.length_append];omega),List.getElem?_append_right (by rw [List.length_append,List.length_reverse];omega)]
   simp
noncomputable def Dis (r:Keyed->Int)(T:List Keyed):Prop:=T.Pairwise fun x y=>r x≠r y
theorem Dis.at (h:Dis r T){i j:Nat}(hi:i<T.length)(hj:j<T.length)(hij:i≠j):kr r T i≠kr r T j:=by
 rw [kr_at (List.getElem?_eq_getElem hi),kr_at (List.getElem?_eq_getElem hj)]
 have:=List.pairwise_iff_getElem.mp h
 by_cases l:i<j
 ·exact this i j hi hj l
 ·exact (this j i hj hi (by omega)).symm
theorem cnt_run (hC:Cmp prog w A₀ κ s X (lr r))(hX:∀ x∈T,X x)(hD:Dis r T)(hT:0<T.length){Q:Option Nat->SortSt->Shared->Prop}
  (q:∀ c t,0<c.length->Sr r c->(c++t).Perm T->Q (some c.length) (SortSt.mk' κ (P++(c++t)).toArray pd mg none) s):kasC (model prog w) A₀ E (countRun' P.length T.length) Q (SortSt.mk' κ (P++T).toArray pd mg none) s:=by
 have take_:∀ n,0<n->n<=T.length->(∀ j,j+1<n->kr r T j<=kr r T (j+1))->Q (some n) (SortSt.mk' κ (P++T).toArray pd mg none) s:=fun n h0 hn h=>by
  have:=q (T.take n) (T.drop n) (by rw [List.length_take];omega) (Sr_of hn h) (by rw [List.take_append_drop])
  rwa [List.take_append_drop,List.length_take,Nat.min_eq_left hn] at this
 unfold countRun'
 refine kasC_bind (kasC_range (kasC_loop (fun i c=>c=(none,i+1)/\∀ j,j+1<i+1->kr r T j<=kr r T (j+1)) (fun c=>∃ n,c=(none,n)/\0<n/\n<=T.length/\(∀ j,j+1<n->kr r T j<=kr r T (j+1))/\(n<T.length->kr r T n<kr r T (n - 1))) (T.length - 1) (fun i x c hi hI=>?_) (fun c hI=>?_) (fun c hDn=>?_) _ 0 _ (by simp) ⟨rfl,fun j hj=>by omega⟩))
 ·obtain ⟨rfl,hI⟩:=hI
  dsimp only
  refine kasC_bind (lt_T hC hX (i:=i+1) (j:=i) (by omega) (by omega) ?_)
  dsimp only
  refine kasC_iteN (fun hc=>?_) fun hc=>?_
  ·rw [decide_eq_true_eq] at hc
   refine kasC_pure ⟨rfl,rfl,rfl,fun j hj=>?_⟩
   by_cases e:j=i
   ·subst e;omega
   ·exact hI j (by omega)
  ·rw [decide_eq_true_eq] at hc
   exact kasC_pure ⟨rfl,rfl,i+1,rfl,by omega,by omega,hI,fun _=>hc⟩
 ·obtain ⟨rfl,hI⟩:=hI
  exact ⟨_,rfl,by omega,by omega,hI,fun h=>by omega⟩
 ·obtain ⟨n,rfl,h0,hn,hI,hlt⟩:=hDn
  dsimp only
  refine kasC_iteN (fun he=>?_) fun he=>?_
  rotate_left
  ·exact kasC_pure (take_ n h0 hn hI)
  rw [beq_iff_eq] at he
  refine kasC_iteN (fun h1=>?_) fun h1=>?_
  rotate_left
  ·-- it rose
   have hlt0:kr r T 0<kr r T (n - 1):=by
    have a:=kr_mono hI (i:=0) (j:=n - 1) (by omega) (by omega)
    have b:=hD.at (i:=0) (j:=n - 1) (by omega) (by omega) (by omega)
    omega
   have l0:kasC (model prog w) A₀ E (ltAt' P.length (P.length+n - 1)) (fun b st s'=>b=some true/\st=SortSt.mk' κ (P++T).toArray pd mg none/\s'=s) (SortSt.mk' κ (P++T).toArray pd mg none) s:=by
    have:=lt_T (prog:=prog) (w:=w) (A₀:=A₀) (E:=E) (P:=P) (pd:=pd) (mg:=mg) hC hX (i:=0) (j:=n - 1) (by omega) (by omega) (Q:=fun b st s'=>b=some true/\st=SortSt.mk' κ (P++T).toArray pd mg none/\s'=s) ⟨by rw [decide_eq_true hlt0],rfl,rfl⟩
    rw [show P.length+n - 1=P.length+(n - 1) by omega]
    exact this
   refine kasC_bind (wpAny_mono l0 (fun b s' hb=>?_) fun _ _ e=>e)
   obtain ⟨b,st'⟩:=b
   obtain ⟨rfl,rfl,rfl⟩:=hb
   dsimp only
   rw [if_pos rfl]
   exact kasC_pure (take_ n h0 hn hI)
  have e1:n=1:=by omega
  subst e1
  have hd0:=hlt (by omega)
  refine kasC_bind (kasC_lift (wpAny_rule ?_))
  refine kasC_bind (kasC_range (kasC_loop (fun i c=>c=(none,i+2,0)/\∀ j,j+1<i+2->kr r T (j+1)<kr r T j) (fun c=>∃ n,c=(none,n,0)/\2<=n/\n<=T.length/\∀ j,j+1<n->kr r T (j+1)<kr r T j) (T.length - 2) (fun i x c hi hI=>?_) (fun c hI=>?_) (fun c hDn=>?_) _ 0 _ (by simp) ⟨rfl,fun j hj=>by rw [show j=0 by omega];exact hd0⟩))
  ·obtain ⟨rfl,hI⟩:=hI
   dsimp only
   refine kasC_bind (lt_T hC hX (i:=i+2) (j:=i+1) (by omega) (by omega) ?_)
   dsimp only
   by_cases hc:kr r T (i+2)<kr r T (i+1)
   ·rw [decide_eq_true hc,if_pos rfl,if_neg (by omega)]
    refine kasC_pure ⟨rfl,rfl,rfl,fun j hj=>?_⟩
    by_cases e:j=i+1
    ·subst e;exact hc
    ·exact hI j (by omega)
   ·rw [decide_eq_false hc,if_neg Bool.false_ne_true]
    have hb:=hD.at (i:=i+1) (j:=i+2) (by omega) (by omega) (by omega)
    refine kasC_bind (lt_T hC hX (i:=i+1) (j:=i+2) (by omega) (by omega) ?_)
    dsimp only
    rw [decide_eq_true (show kr r T (i+1)<kr r T (i+2) by omega),if_pos rfl]
    exact kasC_pure ⟨rfl,rfl,i+2,rfl,by omega,by omega,hI⟩
  ·obtain ⟨rfl,hI⟩:=hI
   exact ⟨T.length,by rw [show T.length - 2+2=T.length by omega],by omega,Nat.le_refl _,fun j hj=>hI j (by omega)⟩
  ·obtain ⟨n,rfl,h2,hn,hI⟩:=hDn
   dsimp only
   rw [if_neg (by omega)]
   refine kasC_bind (rev_is ?_)
      -- turned about
   have eT:P++T=P++T.take n++T.drop n:=by rw [List.append_assoc,List.take_append_drop]
   have hln:(T.take n).length=n:=by rw [List.length_take];omega
   have em:mirror (P++T).toArray P.length (P.length+n) ((P.length+n - P.length) / 2)=(P++((T.take n).reverse++T.drop n)).toArray:=by
    have:=mirror_part P (T.take n) (T.drop n)
    rw [hln] at this
    rw [eT,this,List.append_assoc]
   show kasC _ _ _ _ _ (SortSt.mk' κ (mirror (P++T).toArray P.length (P.length+n) ((P.length+n - P.length) / 2)) pd mg none) s
   rw [em]
   have hU:((T.take n).reverse++T.drop n).length=T.length:=by simp;omega
   have hpm:((T.take n).reverse++T.drop n).Perm T:=by
    refine ((List.reverse_perm _).append_right _).trans ?_
    rw [List.take_append_drop]
   have hXU:∀ x∈(T.take n).reverse++T.drop n,X x:=fun x hx=>hX x (hpm.mem_iff.mp hx)
   have hasc:∀ j,j+1<n->kr r ((T.take n).reverse++T.drop n) j<=kr r ((T.take n).reverse++T.drop n) (j+1):=fun j hj=>by
    have at_:∀ i,i<n->kr r ((T.take n).reverse++T.drop n) i=kr r T (n - 1 - i):=fun i hi=>by
     have:((T.take n).reverse++T.drop n)[i]? = T[n - 1 - i]?:=by
      rw [List.getElem?_append_left (by rw [List.length_reverse,hln];exact hi),List.getElem?_reverse (by omega),hln,List.getElem?_take_of_lt (by omega)]
     unfold kr
     rw [List.getD_eq_getElem?_getD,List.getD_eq_getElem?_getD,this]
    rw [at_ j (by omega),at_ (j+1) hj]
    have:=hI (n - 1 - (j+1)) (by omega)
    rw [show n - 1 - (j+1)+1=n - 1 - j by omega] at this
    omega
   generalize (T.take n).reverse++T.drop n=U at *
   refine kasC_bind (kasC_range (kasC_loop (fun i c=>c=(none,n+i)/\∀ j,j+1<n+i->kr r U j<=kr r U (j+1)) (fun c=>∃ m,c=(none,m)/\0<m/\m<=T.length/\∀ j,j+1<m->kr r U j<=kr r U (j+1)) (T.length - n) (fun i x c hi hI=>?_) (fun c hI=>?_) (fun c hDn=>?_) _ 0 _ (by simp) ⟨rfl,hasc⟩))
   ·obtain ⟨rfl,hI⟩:=hI
    dsimp only
    have l0:kasC (model prog w) A₀ E (ltAt' (P.length+(n+i)) (P.length+(n+i) - 1)) (fun b st s'=>b=some (decide (kr r U (n+i)<kr r U (n+i - 1)))/\st=SortSt.mk' κ (P++U).toArray pd mg none/\s'=s) (SortSt.mk' κ (P++U).toArray pd mg none) s:=by
     rw [show P.length+(n+i) - 1=P.length+(n+i - 1) by omega]
     exact lt_T hC hXU (by omega) (by omega) ⟨rfl,rfl,rfl⟩
    refine kasC_bind (wpAny_mono l0 (fun b s' hb=>?_) fun _ _ e=>e)
    obtain ⟨b,st'⟩:=b
    obtain ⟨rfl,rfl,rfl⟩:=hb
    dsimp only
    refine kasC_iteN (fun hc=>?_) fun hc=>?_
    ·rw [decide_eq_true_eq] at hc
     refine kasC_pure ⟨rfl,rfl,rfl,fun j hj=>?_⟩
     by_cases e:j+1=n+i
     ·rw [show j=n+i - 1 by omega,show n+i - 1+1=n+i by omega];omega
     ·exact hI j (by omega)
    ·exact kasC_pure ⟨rfl,rfl,_,rfl,by omega,by omega,hI⟩
   ·obtain ⟨rfl,hI⟩:=hI
    exact ⟨_,rfl,by omega,by omega,hI⟩
   ·obtain ⟨m,rfl,h0,hm,hI⟩:=hDn
    dsimp only
    have:=q (U.take m) (U.drop m) (by rw [List.length_take];omega) (Sr_of (by omega) hI) (by rw [List.take_append_drop];exact hpm)
    rw [List.take_append_drop,List.length_take,Nat.min_eq_left (by omega)] at this
    exact kasC_pure this
end
end L3
namespace L3
open PySem L2 PySem.W PyProof.Rows
section
variable {prog:Program}{w:World}{A₀:Around}{E:Value->Shared->Prop}{κ:SortKind}{s:Shared}{X:Keyed->Prop}{r:Keyed->Int}{P:List Keyed}{pd:Array (Nat×Nat×Nat)}{mg:Nat}
theorem bubble_part (P C V:List Keyed)(x:Keyed){l:Nat}(hl:l<=C.length):bubble (P++(C++x::V)).toArray (P.length+C.length) (P.length+C.length - (P.length+l))=(P++(C.take l++x::C.drop l++V)).toArray:=by
 apply Array.toList_inj.mp
 apply List.ext_getElem?
 intro k
 rw [Array.getElem?_toList,getElem?_bubble (by simp) _ (by omega),List.toList_toArray]
 have e0:∀ (W:List Keyed)(m:Nat),(P++W)[P.length+m]? = W[m]?:=fun W m=>by
  rw [List.getElem?_append_right (by omega),Nat.add_sub_cancel_left]
 have hlt:(C.take l).length=l:=by rw [List.length_take];omega
 by_cases h1:k<P.length
 ·rw [if_neg (by omega),if_neg (by omega),List.getElem?_toArray,List.getElem?_append_left h1,List.getElem?_append_left h1]
 obtain ⟨m,rfl⟩:∃ m,k=P.length+m:=⟨k - P.length,by omega⟩
 rw [e0]
 by_cases h2:m=l
 ·subst h2
  rw [if_pos (by omega),List.getElem?_toArray,e0,List.getElem?_append_right (Nat.le_refl _),Nat.sub_self,List.append_assoc,List.getElem?_append_right (by omega),hlt,Nat.sub_self]
  rfl
 rw [if_neg (by omega)]
 by_cases h3:l<m/\m<=C.length
 ·rw [if_pos (by omega),List.getElem?_toArray,show P.length+m - 1=P.length+(m - 1) by omega,e0,List.getElem?_append_left (by omega),List.append_assoc,List.getElem?_append_right (by omega),hlt,List.cons_append,show m - l=(m - l - 1)+1 by omega,List.getElem?_cons_succ,List.getElem?_append_left (by rw [List.length_drop];omega),List.getElem?_drop]
  congr 1
  omega
 rw [if_neg (by omega),List.getElem?_toArray,e0]
 by_cases h4:m<l
 ·rw [List.getElem?_append_left (by omega),List.append_assoc,List.getElem?_append_left (by omega),List.getElem?_take_of_lt h4]
 ·rw [List.getElem?_append_right (by omega),List.append_assoc,List.getElem?_append_right (by omega),hlt,List.cons_append,show m - C.length=(m - C.length - 1)+1 by omega,show m - l=(m - l - 1)+1 by omega,List.getElem?_cons_succ,List.getElem?_cons_succ,List.getElem?_append_right (by rw [List.length_drop];omega),List.length_drop]
  congr 1
  omega
theorem bin_m (hC:Cmp prog w A₀ κ s X (lr r)){c D t:List Keyed}(hX:∀ x∈c++D++t,X x)(hc:Sr r c)(h0:0<c.length){Q:Bool->SortSt->Shared->Prop}
  (q:∀ c',Sr r c'->c'.Perm (c++D)->Q true (SortSt.mk' κ (P++(c'++t)).toArray pd mg none) s):kasC (model prog w) A₀ E (binarySort' P.length (c.length+D.length) c.length) Q (SortSt.mk' κ (P++(c++D++t)).toArray pd mg none) s:=by
 unfold binarySort'
 refine kasC_bind (kasC_range ?_)
 rw [Nat.max_eq_left h0]
 refine (kasC_loopS (fun i b st=>b=(none,())/\∃ c' D',st=SortSt.mk' κ (P++(c'++(D'++t))).toArray pd mg none/\Sr r c'/\c'.length=c.length+i/\(c'++D').Perm (c++D)) (fun b st=>b=(none,())/\∃ c',st=SortSt.mk' κ (P++(c'++t)).toArray pd mg none/\Sr r c'/\c'.Perm (c++D)) c.length D.length (fun i b st hi hI=>?_) (fun b st hI=>?_) (fun b st hDn=>?_) (c.length+D.length - c.length) 0 _ _ (by omega) ⟨rfl,c,D,by rw [List.append_assoc],hc,rfl,List.Perm.refl _⟩)
 ·obtain ⟨rfl,c',D',rfl,h1,h2,h3⟩:=hI
  have hl:=h3.length_eq
  rw [List.length_append,List.length_append] at hl
  match D',hl,h3 with
  | [],hl,_=>rw [List.length_nil] at hl;omega
  | x::D',hl,h3=>
   dsimp only
   have hXx:∀ z∈c'++x::(D'++t),X z:=fun z hz=>hX z (by
    have:z∈(c'++x::D')++t:=by simpa using hz
    rcases List.mem_append.mp this with h|h
    ·exact List.mem_append.mpr (.inl (h3.mem_iff.mp h))
    ·exact List.mem_append.mpr (.inr h))
   have hk:c.length+i=c'.length:=h2.symm
   rw [hk]
   have hkx:kr r (c'++x::(D'++t)) c'.length=r x:=kr_at (by rw [List.getElem?_append_right (Nat.le_refl _),Nat.sub_self];rfl)
   have hkm:∀ m,m<c'.length->kr r (c'++x::(D'++t)) m=kr r c' m:=fun m hm=>by
    unfold kr
    rw [List.getD_eq_getElem?_getD,List.getD_eq_getElem?_getD,List.getElem?_append_left hm]
   have eL:c'++(x::D'++t)=c'++x::(D'++t):=rfl
   have mono:∀ {m m':Nat},m<=m'->m'<c'.length->kr r c' m<=kr r c' m':=fun {m m'} h h'=>by
    rw [kr_at (List.getElem?_eq_getElem (show m<c'.length by omega)),kr_at (List.getElem?_eq_getElem h')]
    exact h1.at h (List.getElem?_eq_getElem _) (List.getElem?_eq_getElem _)
   refine kasC_bind (kasC_range (kasC_loop (fun j b=>∃ l u,b=(none,l,u)/\l<=u/\u<=c'.length/\u - l<=c'.length - j/\(∀ m,m<l->kr r c' m<=r x)/\∀ m,u<=m->m<c'.length->r x<kr r c' m) (fun b=>∃ l,b=(none,l,l)/\l<=c'.length/\(∀ m,m<l->kr r c' m<=r x)/\∀ m,l<=m->m<c'.length->r x<kr r c' m) c'.length (fun j y b hj hJ=>?_) (fun b hJ=>?_) (fun b hDn=>?_) _ 0 _ (by simp) ⟨0,c'.length,rfl,by omega,Nat.le_refl _,by omega,fun m hm=>by omega,fun m h h'=>by omega⟩))
   ·obtain ⟨l,u,rfl,j1,j2,j3,j4,j5⟩:=hJ
    dsimp only
    refine kasC_iteN (fun hlu=>?_) fun hlu=>?_
    ·refine kasC_bind (lt_T hC hXx (i:=c'.length) (j:=(l+u) / 2) (by simp) (by simp;omega) ?_)
     rw [hkx,hkm _ (by omega)]
     dsimp only
     refine kasC_iteN (fun hc=>?_) fun hc=>?_
     ·rw [decide_eq_true_eq] at hc
      exact kasC_pure ⟨rfl,rfl,(l+u) / 2+1,u,rfl,by omega,j2,by omega,fun m hm=>by have:=mono (m:=m) (m':=(l+u) / 2) (by omega) (by omega);omega,j5⟩
     ·rw [decide_eq_true_eq] at hc
      exact kasC_pure ⟨rfl,rfl,l,(l+u) / 2,rfl,by omega,by omega,by omega,j4,fun m h h'=>by have:=mono (m:=(l+u) / 2) (m':=m) h h';omega⟩
    ·have e:u=l:=by omega
     subst e
     exact kasC_pure ⟨rfl,rfl,_,rfl,j2,j4,j5⟩
   ·obtain ⟨l,u,rfl,j1,j2,j3,j4,j5⟩:=hJ
    have e:u=l:=by omega
    subst e
    exact ⟨_,rfl,j2,j4,j5⟩
   ·obtain ⟨l,rfl,j2,j4,j5⟩:=hDn
    dsimp only
    have mv:∀ {Q':Unit->SortSt->Shared->Prop},Q' () (SortSt.mk' κ (P++((c'.take l++x::c'.drop l)++(D'++t))).toArray pd mg none) s->kasC (model prog w) A₀ E (moveDown' (P.length+c'.length) (P.length+l)) Q' (SortSt.mk' κ (P++(c'++x::(D'++t))).toArray pd mg none) s:=fun {Q'} h=>by
     rw [moveDown'_eq]
     refine kasC_modify ?_
     show Q' () (SortSt.mk' κ (bubble (P++(c'++x::(D'++t))).toArray (P.length+c'.length) (P.length+c'.length - (P.length+l))) pd mg none) s
     rw [bubble_part P c' (D'++t) x j2]
     exact h
    refine kasC_bind (mv (kasC_pure ⟨rfl,rfl,c'.take l++x::c'.drop l,D',rfl,?_,?_,?_⟩))
    ·have a1:∀ z∈c'.take l,r z<=r x:=fun z hz=>by
      obtain ⟨m,hm,e⟩:=mem_take_at hz
      rw [<- kr_at (r:=r) e]
      exact j4 m hm
     have a2:∀ z∈c'.drop l,r x<=r z:=fun z hz=>by
      obtain ⟨m,hm,e⟩:=mem_drop_at hz
      rw [<- kr_at (r:=r) e]
      exact Int.le_of_lt (j5 m hm (List.getElem?_eq_some_iff.mp e).1)
     have:=Sr.both (r:=r) (U:=c'.take l) (R:=[x]) (V:=c'.drop l) (by unfold Sr;simp) (List.Pairwise.sublist (List.take_sublist _ _) h1) (List.Pairwise.sublist (List.drop_sublist _ _) h1) (fun y hy z hz=>by rw [List.mem_singleton.mp hz];exact a1 y hy) (fun y hy z hz=>by rw [List.mem_singleton.mp hy];exact a2 z hz) (fun y hy z hz=>by have:=a1 y hy;have:=a2 z hz;omega)
     simpa using this
    ·simp;omega
    ·refine List.Perm.trans ?_ h3
     have:(c'.take l++x::c'.drop l).Perm (c'++[x]):=by
      refine List.perm_middle.trans ?_
      rw [List.take_append_drop]
      exact List.perm_append_comm (l₁:=[x])
     have:=this.append_right D'
     simpa using this
 ·obtain ⟨rfl,c',D',rfl,h1,h2,h3⟩:=hI
  have hl:=h3.length_eq
  rw [List.length_append,List.length_append] at hl
  have:D'=[]:=List.length_eq_zero_iff.mp (by omega)
  subst this
  rw [List.append_nil] at h3
  exact ⟨rfl,c',rfl,h1,h3⟩
 ·obtain ⟨rfl,c',rfl,h1,h3⟩:=hDn
  exact kasC_pure (q c' h1 h3)
end
end L3
namespace L3
open PySem L2 PySem.W PyProof.Rows
noncomputable abbrev Run:=List Keyed×Nat
noncomputable def flat (rs:List Run):List Keyed:=(rs.map (·.1)).flatten
noncomputable def pos:Nat->List Run->List (Nat×Nat×Nat)
 | _,[]=>[]
 | p,(c,w)::t=>(p,c.length,w)::pos (p+c.length) t
theorem flat_cons (c:List Keyed)(w:Nat)(t:List Run):flat ((c,w)::t)=c++flat t:=rfl
theorem flat_app (a b:List Run):flat (a++b)=flat a++flat b:=by unfold flat;simp
theorem pos_app:∀ (a b:List Run)(p:Nat),pos p (a++b)=pos p a++pos (p+(flat a).length) b
 | [],b,p=>rfl
 | (c,w)::a,b,p=>by
  show (p,c.length,w)::pos (p+c.length) (a++b)=_
  rw [pos_app a b,flat_cons,List.length_append,Nat.add_assoc]
  rfl
theorem pos_len:∀ (a:List Run)(p:Nat),(pos p a).length=a.length
 | [],_=>rfl
 | (c,w)::a,p=>by show (pos (p+c.length) a).length+1=_;rw [pos_len a];rfl
structure Rn (r:Keyed->Int)(L rest:List Keyed)(rs:List Run):Prop where
 ok:∀ p∈rs,Sr r p.1/\0<p.1.length
 pm:(flat rs++rest).Perm L
section
variable {prog:Program}{w:World}{A₀:Around}{E:Value->Shared->Prop}{κ:SortKind}{s:Shared}{X:Keyed->Prop}{r:Keyed->Int}{L rest:List Keyed}{mg:Nat}
noncomputable abbrev stR (κ:SortKind)(rest:List Keyed)(rs:List Run)(mg:Nat):SortSt:=SortSt.mk' κ (flat rs++rest).toArray (pos 0 rs).toArray mg none
theorem mat_r (hC:Cmp prog w A₀ κ s X (lr r))(hX:∀ x∈L,X x){pre post:List Run}{c1 c2:List Keyed}{w1 w2:Nat}(h:Rn r L rest (pre++(c1,w1)::(c2,w2)::post)){Q:Bool->SortSt->Shared->Prop}
  (q:∀ c mg',Rn r L rest (pre++(c,w1)::post)->c.length=c1.length+c2.length->Q true (stR κ rest (pre++(c,w1)::post) mg') s){i:Nat}(hi:i=pre.length) :
  kasC (model prog w) A₀ E (mergeAt' i) Q (stR κ rest (pre++(c1,w1)::(c2,w2)::post) mg) s:=by
 subst hi
 obtain ⟨h1,h2⟩:=h
 have o1:=h1 (c1,w1) (by simp)
 have o2:=h1 (c2,w2) (by simp)
 have eL:flat (pre++(c1,w1)::(c2,w2)::post)++rest=flat pre++c1++c2++(flat post++rest):=by
  rw [flat_app,flat_cons,flat_cons];simp
 have eP:pos 0 (pre++(c1,w1)::(c2,w2)::post)=pos 0 pre++((flat pre).length,c1.length,w1)::((flat pre).length+c1.length,c2.length,w2)::pos ((flat pre).length+c1.length+c2.length) post:=by
  rw [pos_app,Nat.zero_add];rfl
 unfold stR
 rw [eL,eP]
 refine mat hC (fun x hx=>hX x (h2.mem_iff.mp (by rw [eL];exact hx))) o1.1 o2.1 o1.2 o2.2 (w1:=w1) (w2:=w2) ?_ ?_ fun c mg' g1 g2=>?_
 ·rw [List.getElem?_toArray,List.getElem?_append_right (by rw [pos_len];exact Nat.le_refl _),pos_len,Nat.sub_self]
  rfl
 ·rw [List.getElem?_toArray,List.getElem?_append_right (by rw [pos_len];omega),pos_len,Nat.add_sub_cancel_left]
  rfl
 ·have hl:=g2.length_eq
  rw [List.length_append] at hl
  have e1:flat pre++c++(flat post++rest)=flat (pre++(c,w1)::post)++rest:=by
   rw [flat_app,flat_cons];simp
  have e2:((pos 0 pre++((flat pre).length,c1.length,w1)::((flat pre).length+c1.length,c2.length,w2)::pos ((flat pre).length+c1.length+c2.length) post).toArray.setIfInBounds pre.length ((flat pre).length,c1.length+c2.length,w1)).eraseIdxIfInBounds (pre.length+1)=(pos 0 (pre++(c,w1)::post)).toArray:=by
   apply Array.toList_inj.mp
   have hp:(pos 0 pre).length=pre.length:=pos_len _ _
   rw [Array.toList_eraseIdxIfInBounds,Array.toList_setIfInBounds,List.toList_toArray,List.toList_toArray,pos_app,Nat.zero_add,<- hp,List.set_append_right _ _ (Nat.le_refl _),Nat.sub_self,List.set_cons_zero,List.eraseIdx_append_of_length_le (by omega),Nat.add_sub_cancel_left]
   show _=pos 0 pre++((flat pre).length,c.length,w1)::pos ((flat pre).length+c.length) post
   rw [hl,<- Nat.add_assoc]
   rfl
  rw [e1,e2]
  refine q c mg' ⟨fun p hp=>?_,?_⟩ hl
  ·rcases List.mem_append.mp hp with hp|hp
   ·exact h1 p (by simp [hp])
   ·rcases List.mem_cons.mp hp with rfl|hp
    ·have:=o1.2
     dsimp only at this
     exact ⟨g1,by dsimp only;omega⟩
    ·exact h1 p (by simp [hp])
  ·rw [<- e1]
   refine List.Perm.trans ?_ h2
   rw [eL]
   have:=(g2.append_left (flat pre)).append_right (flat post++rest)
   simpa using this
theorem mat_i (hC:Cmp prog w A₀ κ s X (lr r))(hX:∀ x∈L,X x){rs:List Run}(h:Rn r L rest rs){i:Nat}(hi:i+1<rs.length){Q:Bool->SortSt->Shared->Prop}
  (q:∀ rs' mg',Rn r L rest rs'->rs'.length+1=rs.length->(flat rs').length=(flat rs).length->Q true (stR κ rest rs' mg') s):kasC (model prog w) A₀ E (mergeAt' i) Q (stR κ rest rs mg) s:=by
 have e:rs=rs.take i++(rs[i].1,rs[i].2)::(rs[i+1].1,rs[i+1].2)::rs.drop (i+1+1):=by
  have e1:=List.drop_eq_getElem_cons (l:=rs) (i:=i) (by omega)
  have e2:=List.drop_eq_getElem_cons (l:=rs) (i:=i+1) (by omega)
  have e3:=List.take_append_drop i rs
  rw [e1,e2] at e3
  exact e3.symm
 obtain ⟨pre,c1,w1,c2,w2,post,e',hp⟩:∃ pre c1 w1 c2 w2 post,rs=pre++(c1,w1)::(c2,w2)::post/\i=pre.length:=⟨_,_,_,_,_,_,e,by rw [List.length_take];omega⟩
 subst e'
 refine mat_r hC hX h (fun c mg' g1 g2=>q _ mg' g1 ?_ ?_) hp
 ·simp
  omega
 ·rw [flat_app,flat_app,flat_cons,flat_cons,flat_cons]
  simp
  omega
theorem modify_last {α:Type}(f:α->α):∀ (l:List α)(x:α),(l++[x]).modify l.length f=l++[f x]
 | [],x=>rfl
 | a::l,x=>by
  show a::(l++[x]).modify l.length f=_
  rw [modify_last f l x]
  rfl
theorem push_r (rs:List Run)(c:List Keyed)(w:Nat):(pos 0 rs).toArray.push ((flat rs).length,c.length,w)=(pos 0 (rs++[(c,w)])).toArray:=by
 rw [pos_app,Nat.zero_add]
 apply Array.toList_inj.mp
 rw [Array.toList_push]
 rfl
theorem mod_r (rs:List Run)(c:List Keyed)(w pw:Nat):((pos 0 (rs++[(c,w)])).toArray.modify ((pos 0 (rs++[(c,w)])).toArray.size - 1) fun x=>(x.1,x.2.1,pw))=(pos 0 (rs++[(c,pw)])).toArray:=by
 rw [pos_app,pos_app,Nat.zero_add]
 apply Array.toList_inj.mp
 have:=modify_last (fun x:Nat×Nat×Nat=>(x.1,x.2.1,pw)) (pos 0 rs) ((flat rs).length,c.length,w)
 simp [pos]
 exact this
theorem back_r (rs:List Run)(c:List Keyed)(w:Nat):(pos 0 (rs++[(c,w)])).toArray.back? = some ((flat rs).length,c.length,w):=by
 rw [pos_app,Nat.zero_add]
 simp [pos]
theorem runs_m (hC:Cmp prog w A₀ κ s X (lr r))(hX:∀ x∈L,X x)(hD:Dis r L)(h2:2<=L.length){Q:Unit->SortSt->Shared->Prop}
  (q:∀ (R:List Keyed)(pd:Array (Nat×Nat×Nat))(mg':Nat),Sr r R->R.Perm L->Q () (SortSt.mk' κ R.toArray pd mg' none) s):kasC (model prog w) A₀ E sortRuns' Q (SortSt.mk' κ L.toArray #[] mg none) s:=by
 have hsz:(arrOf (SortSt.mk' κ L.toArray #[] mg none)).size=L.length:=List.size_toArray
 rw [sortRuns'_eq]
 refine kasC_bind (kasC_get ?_)
 dsimp only
 simp only [hsz]
 generalize minRun' L.length L.length 0=mr
 refine kasC_bind (kasC_range (kasC_loopS (fun i b st=>∃ rs rest mg',b=(none,(flat rs).length)/\st=stR κ rest rs mg'/\Rn r L rest rs/\i<=(flat rs).length) (fun b st=>∃ rs mg' n,b=(none,n)/\st=stR κ [] rs mg'/\Rn r L [] rs) 0 L.length (fun i b st hi hI=>?_) (fun b st hI=>?_) (fun b st hDn=>?_) (L.length - 0) 0 _ _ (by omega) ⟨[],L,mg,rfl,rfl,⟨fun p hp=>(by cases hp),List.Perm.refl _⟩,Nat.zero_le _⟩))
 ·obtain ⟨rs,rest,mg1,rfl,rfl,hR,hle⟩:=hI
  have hlen:=hR.pm.length_eq
  rw [List.length_append] at hlen
  dsimp only
  refine kasC_iteN (fun hlo=>?_) fun hlo=>?_
  rotate_left
  ·have:rest=[]:=List.length_eq_zero_iff.mp (by omega)
   subst this
   exact kasC_pure ⟨rfl,rs,mg1,_,rfl,rfl,hR⟩
  have hXr:∀ x∈rest,X x:=fun x hx=>hX x (hR.pm.mem_iff.mp (List.mem_append.mpr (.inr hx)))
  have hDr:Dis r rest:=by
   have:Dis r (flat rs++rest):=hD.perm hR.pm.symm fun h=>h.symm
   exact (List.pairwise_append.mp this).2.1
  rw [show L.length - (flat rs).length=rest.length by omega]
  refine kasC_bind (cnt_run hC hXr hDr (by omega) fun c t h1 h2 h3=>?_)
  dsimp only
  have hct:=h3.length_eq
  rw [List.length_append] at hct
  refine kasC_iteN (fun hmr=>?_) fun hmr=>?_
  rotate_left
  refine kasC_bind (kasC_lift (wpAny_rule ?_))
  have ht:t=t.take (min rest.length mr - c.length)++t.drop (min rest.length mr - c.length):=(List.take_append_drop _ _).symm
  have hD1:(t.take (min rest.length mr - c.length)).length=min rest.length mr - c.length:=by rw [List.length_take];omega
  generalize t.take (min rest.length mr - c.length)=D at ht hD1
  generalize t.drop (min rest.length mr - c.length)=t' at ht
  subst ht
  rw [<- List.append_assoc c D t',show min rest.length mr=c.length+D.length by omega]
  refine kasC_bind (bin_m hC (fun x hx=>hXr x (h3.mem_iff.mp (by rw [<- List.append_assoc];exact hx))) h2 h1 fun c' g1 g2=>?_)
  have hc':=g2.length_eq
  rw [List.length_append] at hc'
  rw [<- hc',if_neg (by decide)]
  have k1:0<c'.length:=by omega
  have k2:=g1
  have k3:(c'++t').Perm rest:=(g2.append_right t').trans (by rw [List.append_assoc];exact h3)
  clear hc' g2 g1 h3 hct
  revert k1 k2 k3
  revert t'
  revert c'
  intro cc tt k1 k2 k3
  rotate_left
  have k1:=h1
  have k2:=h2
  have k3:=h3
  clear h1 h2 h3 hct hmr
  revert k1 k2 k3
  revert t
  revert c
  intro cc tt k1 k2 k3
  all_goals
   have hcc:=k3.length_eq
   rw [List.length_append] at hcc
   refine kasC_bind (kasC_get ?_)
   have fin:∀ (rs':List Run)(mg':Nat),Rn r L (cc++tt) rs'->(flat rs').length=(flat rs).length->∃ rs'' rest' mg'',((none,(flat rs).length+cc.length):Option Unit×Nat)=(none,(flat rs'').length)/\SortSt.mk' κ (flat rs'++(cc++tt)).toArray ((pos 0 rs').toArray.push ((flat rs).length,cc.length,0)) mg' none=stR κ rest' rs'' mg''/\Rn r L rest' rs''/\i+1<=(flat rs'').length:=fun rs' mg' g1 g2=>by
    have e1:flat (rs'++[(cc,0)])=flat rs'++cc:=by rw [flat_app,flat_cons];show _++(cc++[])=_;rw [List.append_nil]
    refine ⟨rs'++[(cc,0)],tt,mg',?_,?_,⟨fun p hp=>?_,?_⟩,?_⟩
    ·rw [e1,List.length_append,g2]
    ·unfold stR
     rw [<- push_r,e1,g2,List.append_assoc]
    ·rcases List.mem_append.mp hp with hp|hp
     ·exact g1.ok p hp
     ·rw [List.mem_singleton.mp hp]
      exact ⟨k2,k1⟩
    ·rw [e1,List.append_assoc]
     exact g1.pm
    ·rw [e1,List.length_append]
     omega
   have hR':Rn r L (cc++tt) rs:=⟨hR.ok,(k3.append_left _).trans hR.pm⟩
   rcases List.eq_nil_or_concat rs with hrs|⟨rs0,⟨cl,wl⟩,hrs⟩
   ·have hb:(pendingOf (SortSt.mk' κ (flat rs++(cc++tt)).toArray (pos 0 rs).toArray mg1 none)).back? = none:=by rw [hrs];rfl
    simp only [hb]
    exact kasC_bind (kasC_modify (kasC_pure ⟨rfl,fin rs mg1 hR' rfl⟩))
   ·rw [List.concat_eq_append] at hrs
    have hb:(pendingOf (SortSt.mk' κ (flat rs++(cc++tt)).toArray (pos 0 rs).toArray mg1 none)).back? = some ((flat rs0).length,cl.length,wl):=by rw [hrs];exact back_r rs0 cl wl
    simp only [hb]
    generalize power' L.length (2 * (flat rs0).length+cl.length) (2 * (flat rs0).length+cl.length+cl.length+cc.length) L.length=pw
    refine kasC_bind (kasC_range (kasC_loopS (fun j b st=>b=(none,())/\∃ rs' mg',st=stR κ (cc++tt) rs' mg'/\Rn r L (cc++tt) rs'/\rs'≠[]/\(flat rs').length=(flat rs).length) (fun b st=>b=(none,())/\∃ rs' mg',st=stR κ (cc++tt) rs' mg'/\Rn r L (cc++tt) rs'/\rs'≠[]/\(flat rs').length=(flat rs).length) 0 L.length (fun j b st hj hJ=>?_) (fun b st hJ=>hJ) (fun b st hDn=>?_) (L.length - 0) 0 _ _ (by omega) ⟨rfl,rs,mg1,rfl,hR',by rw [hrs];simp,rfl⟩))
    ·obtain ⟨rfl,rs',mg2,rfl,g1,g2,g3⟩:=hJ
     refine kasC_bind (kasC_get ?_)
     have hps:(pendingOf (stR κ (cc++tt) rs' mg2)).size=rs'.length:=by
      show (pos 0 rs').toArray.size=_
      rw [List.size_toArray,pos_len]
     rw [hps]
     have hn0:0<rs'.length:=List.length_pos_iff.mpr g2
     by_cases h1:rs'.length>1
     ·rw [if_pos h1]
      obtain ⟨⟨o1,o2,o3⟩,ho⟩:∃ o,(pendingOf (stR κ (cc++tt) rs' mg2))[rs'.length - 2]? = some o:=by
       show ∃ o,(pos 0 rs').toArray[rs'.length - 2]? = some o
       rw [List.getElem?_toArray]
       exact ⟨_,List.getElem?_eq_getElem (by rw [pos_len];omega)⟩
      rw [ho]
      dsimp only
      refine kasC_iteN (fun hp=>?_) fun hp=>?_
      ·refine kasC_bind (mat_i hC hX g1 (by omega) fun rs2 mg3 a1 a2 a3=>?_)
       rw [if_neg (by decide)]
       exact kasC_pure ⟨rfl,rfl,rs2,mg3,rfl,a1,fun e=>by rw [e] at a2;simp at a2;omega,by omega⟩
      ·exact kasC_pure ⟨rfl,rfl,rs',mg2,rfl,g1,g2,g3⟩
     ·rw [if_neg h1]
      exact kasC_pure ⟨rfl,rfl,rs',mg2,rfl,g1,g2,g3⟩
    ·obtain ⟨rfl,rs',mg2,rfl,g1,g2,g3⟩:=hDn
     dsimp only
     refine kasC_bind (kasC_modify ?_)
     rcases List.eq_nil_or_concat rs' with hrs'|⟨rs1,⟨cm,wm⟩,hrs'⟩
     ·exact absurd hrs' g2
     rw [List.concat_eq_append] at hrs'
     subst hrs'
     have f1:flat (rs1++[(cm,wm)])=flat (rs1++[(cm,pw)]):=by rw [flat_app,flat_app];rfl
     refine kasC_bind (kasC_modify (kasC_pure ⟨rfl,?_⟩))
     have:=fin (rs1++[(cm,pw)]) mg2 ⟨fun p hp=>?_,by rw [<- f1];exact g1.pm⟩ (by rw [<- f1];exact g3)
     ·rw [<- mod_r rs1 cm wm pw,<- f1] at this
      exact this
     ·rcases List.mem_append.mp hp with hp|hp
      ·exact g1.ok p (by simp [hp])
      ·rw [List.mem_singleton.mp hp]
       exact g1.ok (cm,wm) (by simp)
 ·obtain ⟨rs,rest,mg1,rfl,rfl,hR,hle⟩:=hI
  have hlen:=hR.pm.length_eq
  rw [List.length_append] at hlen
  have:rest=[]:=List.length_eq_zero_iff.mp (by omega)
  subst this
  exact ⟨rs,mg1,_,rfl,rfl,hR⟩
 ·obtain ⟨rs,mg1,n,rfl,rfl,hR⟩:=hDn
  dsimp only
  have hfl:rs.length<=(flat rs).length:=by
   have:∀ rs:List Run,(∀ p∈rs,0<p.1.length)->rs.length<=(flat rs).length:=by
    intro rs
    induction rs with
    | nil=>intro _;exact Nat.le_refl _
    | cons p rs ih=>
     intro h
     obtain ⟨c,w⟩:=p
     have a:=ih fun p hp=>h p (by simp [hp])
     have b:=h (c,w) (by simp)
     dsimp only at b
     rw [flat_cons,List.length_append,List.length_cons]
     omega
   exact this rs fun p hp=>(hR.ok p hp).2
  have hlen:=hR.pm.length_eq
  rw [List.length_append,List.length_nil] at hlen
  refine kasC_bind (kasC_range (kasC_loopS (fun i b st=>b=(none,())/\∃ rs mg',st=stR κ [] rs mg'/\Rn r L [] rs/\rs.length+i<=L.length) (fun b st=>b=(none,())/\∃ rs mg',st=stR κ [] rs mg'/\Rn r L [] rs/\rs.length<=1) 0 L.length (fun i b st hi hI=>?_) (fun b st hI=>?_) (fun b st hDn=>?_) (L.length - 0) 0 _ _ (by omega) ⟨rfl,rs,mg1,rfl,hR,by omega⟩))
  ·obtain ⟨rfl,rs,mg2,rfl,hR,hb⟩:=hI
   refine kasC_bind (kasC_get ?_)
   have hps:(pendingOf (stR κ [] rs mg2)).size=rs.length:=by
    show (pos 0 rs).toArray.size=_
    rw [List.size_toArray,pos_len]
   rw [hps]
   refine kasC_iteN (fun h1=>?_) fun h1=>?_
   ·refine kasC_bind (mat_i hC hX hR ?_ fun rs' mg' g1 g2 g3=>?_)
    ·split<;>(try split)<;>omega
    ·rw [if_neg (by decide)]
     exact kasC_pure ⟨rfl,rfl,rs',mg',rfl,g1,by omega⟩
   ·exact kasC_pure ⟨rfl,rfl,rs,mg2,rfl,hR,h1⟩
  ·obtain ⟨rfl,rs,mg2,rfl,hR,hb⟩:=hI
   exact ⟨rfl,rs,mg2,rfl,hR,by omega⟩
  ·obtain ⟨rfl,rs,mg2,rfl,hR,hb⟩:=hDn
   dsimp only
   have hpm:=hR.pm
   rw [List.append_nil] at hpm
   refine kasC_pure ?_
   have:=q (flat rs++[]) (pos 0 rs).toArray mg2 ?_ (by rw [List.append_nil];exact hpm)
   ·exact this
   ·rw [List.append_nil]
    match rs,hb,hR with
    | [],_,_=>exact List.Pairwise.nil
    | [(c,w)],_,hR=>
     have:=(hR.ok (c,w) (by simp)).1
     rw [flat_cons]
     show Sr r (c++[])
     rw [List.append_nil]
     exact this
    | _::_::_,hb,_=>simp at hb
end
end L3
namespace L3
open PySem L2 PySem.W PyProof.Rows
section
variable {prog:Program}{w:World}{A:Around}{E:Value->Shared->Prop}{s:Shared}
theorem sort_any {c:Addr}{us:List Value}{z:Nat}{rk:Value->Int}(N:us.Pairwise fun x y=>rk x≠rk y)(h1:2<=us.length)(h2:us.length<=sizeLine){R:PySem.Fin->Shared->Prop}(g:s.heap.get? c=some (seqObj "list" us.toArray z))
  (H:∀ h3:Heap,(∀ b o,b≠c->s.heap.get? b=some o->h3.get? b=some o)->Asks prog w A us (fun x y=>decide (rk x<rk y)) { s with heap:=h3 })
  (q:∀ out:List Value,out.Perm us->out.Pairwise (fun x y=>rk x<=rk y)->R (.done (.ret .none)) { s with heap:=sortedHeap s.heap c us out.toArray }) :
  wpAny (model prog w) A (Builtin.«list.sort» ⟨[.ref c],[]⟩) R E s:=by
 rw [list_sort_plain]
 have lt:c<s.heap.objs.size:=Heap.lt_size g
 refine wpAny_bind (listItems_at g rfl (wpAny_bind (listUpdate_at g rfl ?_ (by rw [List.size_toArray];omega) (Nat.zero_le _))))
 obtain ⟨y,g1⟩:∃ y,(s.heap.update c (Obj.mapSeq fun _=>#[])).get? c=some (seqObj "list" #[] y):=⟨_,get?_update_seq g _⟩
 refine wpAny_bind (seqEpoch_at g1 rfl (wpAny_bind (wpAny_newTuple (wpAny_bind (wpAny_newList (wpAny_holding ?_) (Nat.zero_le _))) (by show us.length<=_;omega))))
 have g6:(((s.heap.update c (Obj.mapSeq fun _=>#[])).push (seqObj "tuple" us.toArray 0)).push (seqObj "list" #[] 0)).get? c=some (seqObj "list" #[] y):=
  Heap.get?_push_of_some _ (Heap.get?_push_of_some _ g1)
 have ask:=H (((s.heap.update c (Obj.mapSeq fun _=>#[])).push (seqObj "tuple" us.toArray 0)).push (seqObj "list" #[] 0)) fun b o hb e=>Heap.get?_push_of_some _ (Heap.get?_push_of_some _ ((Heap.get?_update_other _ _ (Ne.symm hb)).trans e))
 show wpAny (model prog w) A _ R E ⟨((s.heap.update c (Obj.mapSeq fun _=>#[])).push (seqObj "tuple" us.toArray 0)).push (seqObj "list" #[] 0),s.gens,s.drawn,s.toks,s.os⟩
 dsimp only
 have many:¬ us.toArray.size<2:=by rw [List.size_toArray];omega
 rw [if_neg many,if_neg many]
 refine wpAny_bind (wpAny_mono ask (fun κ s' hk=>?_) fun _ _ x=>x.elim)
 obtain ⟨rfl,hk⟩:=hk
 have ez:us.toArray.zip us.toArray=(us.map fun u=>(u,u)).toArray:=by
  apply Array.toList_inj.mp
  rw [zip_self,List.toList_toArray]
 have run:=runs_m (prog:=prog) (w:=w) (A₀:=A) (E:=E) (κ:=κ) (X:=fun p=>∃ u∈us,p=(u,u)) (r:=fun p=>rk p.1)
  (s:={ s with heap:=((s.heap.update c (Obj.mapSeq fun _=>#[])).push (seqObj "tuple" us.toArray 0)).push (seqObj "list" #[] 0) }) (L:=us.map fun u=>(u,u)) (mg:=7)
  (fun x y C hx hy hc=>by
   obtain ⟨u,hu,rfl⟩:=hx
   obtain ⟨v,hv,rfl⟩:=hy
   exact hk u v C hu hv hc) (fun x hx=>by
   obtain ⟨u,hu,rfl⟩:=List.mem_map.mp hx
   exact ⟨u,hu,rfl⟩) (by unfold Dis;rw [List.pairwise_map];exact N) (by rw [List.length_map];exact h1)
  (Q:=fun _ st' s'=>s' = { s with heap:=((s.heap.update c (Obj.mapSeq fun _=>#[])).push (seqObj "tuple" us.toArray 0)).push (seqObj "list" #[] 0) }/\failedOf st'=none/\∃ out:List Value,(arrOf st').map (·.2)=out.toArray/\out.Perm us/\out.Pairwise (fun x y=>rk x<=rk y)) (fun T pd mg' h3 h4=>⟨rfl,rfl,T.map (·.2),by
   show T.toArray.map (·.2)=_
   rw [List.map_toArray],by
   have:=h4.map (·.2)
   rw [List.map_map] at this
   exact this.trans (by rw [show ((fun p:Keyed=>p.2) ∘ fun u:Value=>(u,u))=id from rfl,List.map_id]),by
   rw [List.pairwise_map]
   refine List.Pairwise.imp_of_mem (R:=fun x y:Keyed=>rk x.1<=rk y.1) (fun {x y} hx hy h=>?_) h3
   obtain ⟨u,_,rfl⟩:=List.mem_map.mp (h4.mem_iff.mp hx)
   obtain ⟨v,_,rfl⟩:=List.mem_map.mp (h4.mem_iff.mp hy)
   exact h⟩)
 rw [ez]
 refine wpAny_bind (wpAny_mono run (fun r s' hr=>?_) fun _ _ e=>e)
 obtain ⟨⟨⟩,st'⟩:=r
 obtain ⟨rfl,hf,out,hout,hp,hsd⟩:=hr
 dsimp only at hf hout ⊢
 rw [hout]
 have hol:=hp.length_eq
 refine wpAny_bind (seqEpoch_at g6 rfl (wpAny_bind (listUpdate_at g6 rfl ?_ (hsz2:=by rw [List.size_toArray];omega))))
 rw [hf]
 simp only [bne_self_eq_false,Bool.false_eq_true,if_false]
 exact wpAny_pure (q out hp hsd)
theorem sorted_any {l:Addr}{us:List Value}{rk:Value->Int}(N:us.Pairwise fun x y=>rk x≠rk y)(h1:2<=us.length)(h2:us.length<=sizeLine){Q:Value->Shared->Prop}(hl:s.heap.IsList l us.toArray)
  (H:∀ h3:Heap,(∀ b o,s.heap.get? b=some o->h3.get? b=some o)->Asks prog w A.in1.in1 us (fun x y=>decide (rk x<rk y)) { s with heap:=h3 })
  (q:∀ out:List Value,out.Perm us->out.Pairwise (fun x y=>rk x<=rk y)->Q (.ref (s.heap.objs.size+1)) { s with heap:=sortedAll s.heap us out.toArray }):wpAny (model prog w) A (call (.builtin "sorted") [.ref l]) Q E s:=by
 refine Calls.call_function_entry kind_sorted plain_sorted entry_sorted (args_sorted1 _) ?_
 unfold Builtin.«sorted»
 refine wpAny_bind (m:=checkCount "sorted" 1 1 _) (wpAny_pure (wpAny_bind (collect_list hl (wpAny_bind (wpAny_newList ?_ (by omega))) (by omega))))
 have z:((s.heap.push (seqObj "list" #[] 0)).update s.heap.objs.size (Obj.mapSeq (·++us.toArray))).objs.size=s.heap.objs.size+1:=by rw [Heap.size_update,size_push']
 have g:(((s.heap.push (seqObj "list" #[] 0)).update s.heap.objs.size (Obj.mapSeq (·++us.toArray))).push (seqObj "list" us.toArray 0)).get? (s.heap.objs.size+1)=some (seqObj "list" us.toArray 0):=z ▸ Heap.get?_push_size _ rfl
 show wpAny _ _ _ _ _ ⟨((s.heap.push (seqObj "list" #[] 0)).update s.heap.objs.size (Obj.mapSeq (·++us.toArray))).push (seqObj "list" us.toArray 0),s.gens,s.drawn,s.toks,s.os⟩
 rw [z]
 refine wpAny_bind (wpAny_holding (wpAny_call_entry slot_list_sort ⟨_,g,rfl⟩ entry_list_sort (sort_any N h1 h2 g (fun h3 kp=>H h3 fun b o e=>kp b o ?_ ?_) fun out o1 o2=>⟨_,rfl,?_⟩) (args_list_sort _)))
 ·exact Nat.ne_of_lt (Nat.lt_succ_of_lt (Heap.lt_size e))
 ·exact Heap.get?_push_of_some _ ((Heap.get?_update_other _ _ (Nat.ne_of_gt (Heap.lt_size e))).trans (Heap.get?_push_of_some _ e))
 ·exact wpAny_pure ⟨_,rfl,q out o1 o2⟩
end
section
variable {α:Type}{lt:α->α->Bool}
structure Ord1 (lt:α->α->Bool):Prop where
 ir:∀ x,lt x x=false
 tr:∀ x y z,lt x y=true->lt y z=true->lt x z=true
 to:∀ x y,lt x y=false->lt y x=false->x=y
noncomputable def rnk (lt:α->α->Bool)(l:List α)(x:α):Int:=(l.countP fun y=>lt y x:Nat)
theorem rnk_lt (h:Ord1 lt){l:List α}{x y:α}(hx:x∈l):lt x y=true->rnk lt l x<rnk lt l y:=fun e=>by
 unfold rnk
 have:∀ l:List α,l.countP (fun z=>lt z x)<=l.countP (fun z=>lt z y):=fun l=>List.countP_mono_left fun z _ hz=>h.tr z x y hz e
 have h2:l.countP (fun z=>lt z x)<l.countP (fun z=>lt z y):=by
  induction l with
  | nil=>cases hx
  | cons a l ih=>
   rw [List.countP_cons,List.countP_cons]
   rcases List.mem_cons.mp hx with rfl|hx
   ·rw [h.ir,e,if_neg Bool.false_ne_true,if_pos rfl]
    have:=this l
    omega
   ·have:=ih hx
    by_cases ha:lt a x=true
    ·rw [if_pos ha,if_pos (h.tr _ _ _ ha e)];omega
    ·rw [if_neg ha];split<;>omega
 omega
theorem rnk_iff (h:Ord1 lt){l:List α}{x y:α}(hx:x∈l)(hy:y∈l):lt x y=decide (rnk lt l x<rnk lt l y):=by
 cases e:lt x y with
 | true=>rw [decide_eq_true (rnk_lt h hx e)]
 | false=>
  symm
  rw [decide_eq_false_iff_not]
  cases e2:lt y x with
  | true=>have:=rnk_lt h hy e2;omega
  | false=>rw [h.to x y e e2];omega
theorem rnk_ne (h:Ord1 lt){l:List α}{x y:α}(hx:x∈l)(hy:y∈l)(hn:x≠y):rnk lt l x≠rnk lt l y:=fun e=>by
 have a:=rnk_iff h hx hy
 have b:=rnk_iff h hy hx
 rw [e,decide_eq_false (by omega)] at a
 rw [e,decide_eq_false (by omega)] at b
 exact hn (h.to x y a b)
theorem srt_uniq (h:Ord1 lt):∀ {a b:List α},a.Perm b->a.Pairwise (fun x y=>lt x y=true)->b.Pairwise (fun x y=>lt x y=true)->a=b
 | [],b,p,_,_=>(List.nil_perm.mp p).symm
 | x::a,b,p,ha,hb=>by
  match b,p,hb with
  | [],p,_=>exact absurd p.length_eq (by simp)
  | y::b,p,hb=>
   have e:x=y:=by
    rcases List.mem_cons.mp (p.mem_iff.mp (List.mem_cons_self ..)) with e|hx
    ·exact e
    ·rcases List.mem_cons.mp (p.symm.mem_iff.mp (List.mem_cons_self ..)) with e|hy
     ·exact e.symm
     ·have h1:=List.rel_of_pairwise_cons hb hx
      have h2:=List.rel_of_pairwise_cons ha hy
      have:=h.tr _ _ _ h1 h2
      rw [h.ir] at this
      cases this
   subst e
   rw [srt_uniq h (List.Perm.cons_inv p) (List.pairwise_cons.mp ha).2 (List.pairwise_cons.mp hb).2]
end
theorem ltS_ord:Ord1 ltS:=by
 refine ⟨fun x=>?_,fun x y z h1 h2=>?_,fun x y h1 h2=>?_⟩
 ·unfold ltS
  rw [decide_eq_false_iff_not]
  exact List.lt_irrefl _
 ·unfold ltS at *
  rw [decide_eq_true_eq] at *
  exact List.lt_trans h1 h2
 ·unfold ltS at *
  rw [decide_eq_false_iff_not] at *
  have:x.cps.toList=y.cps.toList:=List.le_antisymm (List.not_lt.mp h2) (List.not_lt.mp h1)
  obtain ⟨⟨a⟩⟩:=x
  obtain ⟨⟨b⟩⟩:=y
  cases this
  rfl
end L3
namespace L3
open PySem L2 PySem.W PyProof.Rows
noncomputable def sortTx (ss:List Str):List Str:=ss.mergeSort fun a b=>!(ltS b a)
theorem sortTx_perm (ss:List Str):(sortTx ss).Perm ss:=List.mergeSort_perm _ _
theorem sortTx_up {ss:List Str}(hn:ss.Nodup):(sortTx ss).Pairwise fun x y=>ltS x y=true:=by
 have h:=List.pairwise_mergeSort (le:=fun a b=>!(ltS b a)) (fun a b c h1 h2=>by
  rw [Bool.not_eq_true'] at h1 h2 ⊢
  cases e:ltS c a with
  | false=>rfl
  | true=>
   cases e2:ltS a b with
   | true=>rw [ltS_ord.tr _ _ _ e e2] at h2;cases h2
   | false=>rw [ltS_ord.to _ _ e2 h1] at e;rw [e] at h2;cases h2) (fun a b=>by
  cases e:ltS b a with
  | false=>rfl
  | true=>
   cases e2:ltS a b with
   | false=>rfl
   | true=>have:=ltS_ord.tr _ _ _ e e2;rw [ltS_ord.ir] at this;cases this) ss
 have hnd:(sortTx ss).Nodup:=(sortTx_perm ss).nodup_iff.mpr hn
 refine List.Pairwise.imp₂ (R:=fun a b=>(!(ltS b a))=true) (S:=fun a b=>a≠b) (fun {a b} h1 h2=>?_) h hnd
 rw [Bool.not_eq_true'] at h1
 cases e:ltS a b with
 | true=>rfl
 | false=>exact absurd (ltS_ord.to _ _ e h1) h2
theorem sortTx_is {ss ts:List Str}(hp:ts.Perm ss)(hs:ts.Pairwise fun x y=>ltS x y=true):sortTx ss=ts:=by
 have hn:ts.Nodup:=hs.imp fun {a b} h e=>by rw [e,ltS_ord.ir] at h;cases h
 exact srt_uniq ltS_ord ((sortTx_perm ss).trans hp.symm) (sortTx_up (hp.nodup_iff.mp hn)) hs
noncomputable def rSortTx (K:PySem.W.Frag):List V->Hp->VK->Prop:=fun xs H Q=>∃ q ss,xs=[V.ref q]/\SqL K H q (ss.map V.str)/\2<=ss.length/\ss.Nodup/\∀ l,H l=none->Q (.ref l) (upd H l (.lst ((sortTx ss).map V.str)))
theorem call_sortTx {X:Cx}:CallR X (.builtin "sorted") (rSortTx X.K):=by
 intro pins s σ H xs us Q I r h
 obtain ⟨q,ss,rfl,hq,h1,hn,k⟩:=h
 obtain ⟨u,rfl,ru⟩:=vals1 r
 cases ru
 obtain ⟨its,rv,pl,hz⟩:=I.list hq
 have hlen:=rv.length
 rw [List.length_map] at hlen
 have hS:=strs_are rv
 have hst:=hS.strs
 have hmem:∀ v∈its,strOf v∈ss:=fun v hv=>by rw [<- hst];exact List.mem_map.mpr ⟨v,hv,rfl⟩
 have hz':its.length<=sizeLine:=by rw [List.length_map] at hz;omega
 refine sorted_any (rk:=fun v=>rnk ltS ss (strOf v)) ?_ (by omega) hz' pl.isList (fun h3 kp=>?_) fun out o1 o2=>?_
 ·have:(its.map strOf).Nodup:=by rw [hst];exact hn
  unfold List.Nodup at this
  rw [List.pairwise_map] at this
  exact List.Pairwise.imp_of_mem (fun {x y} hx hy h=>rnk_ne ltS_ord (hmem x hx) (hmem y hy) h) this
 ·unfold Asks
  match its,hS,hlen,hmem with
  | v₁::v₂::vs,hS,_,hmem=>
   rw [keyKind_strs hS]
   refine wpAny_pure ⟨rfl,fun x y C hx hy hC=>?_⟩
   dsimp only at hC
   rw [<- rnk_iff ltS_ord (hmem x hx) (hmem y hy)] at hC
   obtain ⟨a,t,rfl⟩:=hS.all x hx
   obtain ⟨b,t',rfl⟩:=hS.all y hy
   exact kas_lt_str hC
  | [_],_,h,_=>exact absurd (show ss.length=1 from h) (by omega)
  | [],_,h,_=>exact absurd (show ss.length=0 from h) (by omega)
 ·have hall:∀ v∈out,∃ x t,v=Value.str x t:=fun v hv=>hS.all v (o1.mem_iff.mp hv)
  have hout:out.map strOf=sortTx ss:=by
   symm
   refine sortTx_is (by rw [<- hst];exact o1.map _) ?_
   rw [List.pairwise_map]
   have hnd:(out.map strOf).Nodup:=(o1.map strOf).nodup_iff.mpr (by rw [hst];exact hn)
   unfold List.Nodup at hnd
   rw [List.pairwise_map] at hnd
   refine List.Pairwise.imp_of_mem (R:=fun x y=>rnk ltS ss (strOf x)<=rnk ltS ss (strOf y)/\strOf x≠strOf y) (fun {x y} hx hy h=>?_) (o2.and hnd)
   have mx:=hmem x (o1.mem_iff.mp hx)
   have my:=hmem y (o1.mem_iff.mp hy)
   rw [rnk_iff ltS_ord mx my,decide_eq_true_eq]
   have:=rnk_ne ltS_ord mx my h.2
   have:=h.1
   omega
  have hval:∀ {out:List Value},(∀ v∈out,∃ x t,v=Value.str x t)->Vals ((out.map strOf).map V.str) out:=by
   intro out
   induction out with
   | nil=>intro _;exact .nil
   | cons v out ih=>
    intro h
    obtain ⟨x,t,rfl⟩:=h v (by simp)
    exact .cons ⟨t,rfl⟩ (ih fun v hv=>h v (by simp [hv]))
  have hol:=o1.length_eq
  obtain ⟨e,he⟩:=PyProof.Rows.sortedAll_at s.heap its out.toArray
  refine ⟨.ref (s.heap.objs.size+1),_,I.laid (t':=s.toks) (a:=s.heap.objs.size+1) (o:=.lst ((sortTx ss).map V.str)) (fun b ob z=>PyProof.Rows.sortedAll_old z) (Nat.le_succ _) ?_,rfl,k _ (I.hok.fresh (Nat.le_succ _))⟩
  rw [<- hout]
  exact ⟨by simp only [List.length_map];omega,out,e,hval hall,he⟩
end L3
namespace L3
open PySem L2
open PyProof.Rows (IntsAre Fr News seqObj)
section
variable {prog:Program}{w:World}{A:Around}{E:Value->Shared->Prop}{s:Shared}{h₀:Heap}{L:Addr}{m:Str->Option Value}{news:List (Addr×Obj)}
end
section
variable {X:Cx}{pins:List (Addr×Obj)}{σ:St}{H:Hp}{s:Shared}
end
end L3
namespace L3
open PySem
open PySem.W (KasT kas_asc kas_desc kas_tail3 kas_descPart kas_count kas_place kas_bin kas_sort kas_rev)
open PyProof.Rows (mirror bubble getElem?_bubble getElem?_mirror_all mirror_size bubble_size)
section
variable {ans:Nat->Nat->Bool}{κ:Nat->Nat}(hk:∀ i j,ans i j=decide (κ i<κ j))
noncomputable def gK (κ:Nat->Nat)(p:Array Nat)(k:Nat):Nat:=κ (p.getD k 0)
include hk in
structure Falls (κ:Nat->Nat)(p:Array Nat)(n q:Nat):Prop where
 fall:∀ i j,i<=j->j<n->gK κ p j<=gK κ p i
 alike:∀ k,n - 1 - q<=k->k<n->gK κ p k=gK κ p (n - 1)
 qn:q<n
theorem Falls.same {p p':Array Nat}{n q:Nat}(F:Falls κ p n q)(h:∀ k,gK κ p' k=gK κ p k):Falls κ p' n q:=
 ⟨fun i j h1 h2=>by rw [h,h];exact F.fall i j h1 h2,fun k h1 h2=>by rw [h,h];exact F.alike k h1 h2,F.qn⟩
include hk in
include hk in
include hk in
include hk in
include hk in
include hk in
include hk in
end
section
variable {α:Type}{lt:α->α->Bool}(irr:∀ a,lt a a=false)(tr:∀ a b c,lt a b=true->lt b c=true->lt a c=true)(nt:∀ a b c,lt a b=true->lt a c=true\/lt c b=true)
include irr tr nt in
include irr tr nt in
end
end L3
namespace L3
open PySem L2
section
variable {X:Cx}{a b c:Expr}{ma mb mc:ME}{pos:Pos}
noncomputable def isBl (neg:Bool):D->D->Hm->Option (D×Hm)
 | .bl b,.bl c,μ=>some (.bl (if neg then !(b == c) else b == c),μ)
 | .int _,.bl _,μ=>some (.bl neg,μ)
 | _,_,_=>none
noncomputable def isM (neg:Bool):D->D->Hm->Option (D×Hm):=fun x y μ=>match y with
 | .bl _=>isBl neg x y μ
 | _=>isNon neg x y μ
noncomputable def rIsB (neg:Bool):R2:=fun x y H Q=>∃ c,y=.bl c/\((∃ b,x=.bl b/\Q (.bl (if neg then !(b == c) else b == c)) H)\/((∃ i,x=.int i)/\Q (.bl neg) H))
theorem isBl_ok {K:PySem.W.Frag}{neg:Bool}:OpD K (isBl neg) (rIsB neg):=by
 intro π H μ x y d μ' vx vy Q R ix iy hm k
 unfold isBl at hm
 split at hm
 ·cases hm;cases ix;cases iy
  exact ⟨_,rfl,.inl ⟨_,rfl,k π _ H .refl R (.bl _)⟩⟩
 ·cases hm;cases ix;cases iy
  exact ⟨_,rfl,.inr ⟨⟨_,rfl⟩,k π _ H .refl R (.bl _)⟩⟩
 ·cases hm
theorem op_isB:OpR X (compareOp .Is) (rIsB false):=by
 intro pins s σ H x y v u Q I rx ry h
 obtain ⟨c,rfl,h⟩:=h
 cases ry
 rcases h with ⟨b,rfl,q⟩|⟨⟨i,rfl⟩,q⟩
 ·cases rx
  exact wpAny_pure (fin_bl I q (by cases b<;>cases c<;>rfl))
 ·obtain ⟨t,rfl⟩:=rx
  exact wpAny_pure (fin_bl I q rfl)
theorem op_isNB:OpR X (compareOp .IsNot) (rIsB true):=by
 intro pins s σ H x y v u Q I rx ry h
 obtain ⟨c,rfl,h⟩:=h
 cases ry
 rcases h with ⟨b,rfl,q⟩|⟨⟨i,rfl⟩,q⟩
 ·cases rx
  exact wpAny_pure (fin_bl I q (by cases b<;>cases c<;>rfl))
 ·obtain ⟨t,rfl⟩:=rx
  exact wpAny_pure (fin_bl I q rfl)
theorem isM_alt {neg:Bool}(x y:D)(μ:Hm)(r:D×Hm)(h:isM neg x y μ=some r):isBl neg x y μ=some r\/isNon neg x y μ=some r:=by
 unfold isM at h
 split at h
 ·exact .inl h
 ·exact .inr h
theorem e_isM (ha:QE X a ma)(hb:QE X b mb):QE X (.Compare a [.Is] [b] pos) (mOp (isM false) ma mb):=e_alt ⟨pm_cmp op_isB isBl_ok ha.h hb.h (nomark _)⟩ (e_is ha hb) (mOp_alt isM_alt)
theorem e_isnotM (ha:QE X a ma)(hb:QE X b mb):QE X (.Compare a [.IsNot] [b] pos) (mOp (isM true) ma mb):=e_alt ⟨pm_cmp op_isNB isBl_ok ha.h hb.h (nomark _)⟩ (e_isnot ha hb) (mOp_alt isM_alt)
theorem t_isM (ha:QE X a ma)(hb:QE X b mb):QT X (.Compare a [.Is] [b] pos) (mTest (mOp (isM false) ma mb)):=t_alt ⟨pmt_cmp op_isB isBl_ok ha.h hb.h (nomark _)⟩ (t_is ha hb) (mTest_alt (mOp_alt isM_alt))
theorem t_isnotM (ha:QE X a ma)(hb:QE X b mb):QT X (.Compare a [.IsNot] [b] pos) (mTest (mOp (isM true) ma mb)):=t_alt ⟨pmt_cmp op_isNB isBl_ok ha.h hb.h (nomark _)⟩ (t_isnot ha hb) (mTest_alt (mOp_alt isM_alt))
end
noncomputable def sumM:MF:=fun ds μ=>match ds with
 | [x]=>(seqD μ x).bind fun xs=>(intsD xs).map fun is=>(.int is.sum,μ)
 | _=>none
noncomputable def rSum (K:PySem.W.Frag):List V->Hp->VK->Prop:=fun xs H Q=>∃ (p:Addr)(is:List Int),xs=[.ref p]/\(SqL K H p (is.map V.int)\/SqT K H p (is.map V.int))/\Q (.int is.sum) H
theorem sumM_ok {K:PySem.W.Frag}:CallD K sumM (rSum K):=by
 intro π H μ xs d μ' vs Q R i hm k
 unfold sumM at hm
 split at hm
 ·obtain ⟨ys,h1,hm⟩:=Option.bind_eq_some_iff.mp hm
  obtain ⟨is,h2,hm⟩:=Option.map_eq_some_iff.mp hm
  cases hm
  cases i with
  | cons i t=>
   cases t
   obtain ⟨p,ws,rfl,q,hd⟩:=seq_of R i h1
   rw [intsD_eq h2] at hd
   have:=ints_of' hd
   subst this
   exact ⟨p,is,rfl,q,k π _ H .refl R (.int _)⟩
 ·cases hm
theorem preSum_list (is:List Int):∀ n,n<=is.length->preSum (fun i=>is.getD i 0) n=(is.take n).sum
 | 0,_=>rfl
 | n+1,h=>by
  have ih:=preSum_list is n (by omega)
  have e:is.take (n+1)=is.take n++[is[n]]:=by rw [List.take_succ,List.getElem?_eq_getElem (by omega)];rfl
  show preSum (fun i=>is.getD i 0) n+is.getD n 0=_
  rw [ih,e,List.sum_append]
  simp [List.getD,List.getElem?_eq_getElem (show n<is.length by omega)]
section
variable {X:Cx}
theorem moved_kept {pins:List (Addr×Obj)}{σ:St}{H:Hp}{s s2 s':Shared}{wr:List Addr}(I:Inv X pins σ H s)(m:Moved wr (fun a b=>b=a) s2 s')(e2:∀ b o,s.heap.get? b=some o->s2.heap.get? b=some o)(hw:∀ b∈wr,s.heap.objs.size<=b)(hs:s2.gens=s.gens/\s2.drawn=s.drawn/\s2.os=s.os):Inv X pins σ H s':=by
 have hk:∀ b o,s.heap.get? b=some o->s'.heap.get? b=some o:=fun b o e=>m.heap b o (fun z=>absurd (Nat.lt_of_lt_of_le (Heap.lt_size e) (hw b z)) (Nat.lt_irrefl _)) (e2 b o e)
 have h1:s'.gens=s.gens:=m.gens.trans hs.1
 have h2:s'.drawn=s.drawn:=m.drawn.trans hs.2.1
 have h3:s'.os=s.os:=m.os.trans hs.2.2
 obtain ⟨h',g',d',t',o'⟩:=s'
 dsimp only at h1 h2 h3 hk
 subst h1 h2 h3
 exact I.kept (t':=t') hk
theorem ints_vals {is:List Int}{its:List Value}(r:Vals (is.map V.int) its){i:Nat}{v:Value}(h:its.toArray[i]? = some v):∃ t,v=.int (is.getD i 0) t:=by
 have h':its[i]? = some v:=by simpa using h
 have hi:i<is.length:=by
  have:=(List.getElem?_eq_some_iff.mp h').1
  have:=r.length
  rw [List.length_map] at this
  omega
 obtain ⟨u,h1,h2⟩:=r.get (i:=i) (x:=.int is[i]) (by rw [List.getElem?_map,List.getElem?_eq_getElem hi];rfl)
 rw [h'] at h1
 cases h1
 obtain ⟨t,rfl⟩:=h2
 exact ⟨t,by simp [List.getD,hi]⟩
theorem call_sumA (hc:X.calm=true):CallR X (.builtin "sum") (rSum X.K):=by
 intro pins s σ H xs us Q I r h
 obtain ⟨p,is,rfl,hq,q⟩:=h
 obtain ⟨u,rfl,ru⟩:=vals1 r
 cases ru
 have hh:X.A.in1.handled=none:=I.ok.hd hc
 have fin:∀ its:List Value,Vals (is.map V.int) its->preSum (fun i=>is.getD i 0) its.toArray.size=is.sum:=fun its rv=>by
  have hlen:its.toArray.size=is.length:=by rw [List.size_toArray,<- rv.length,List.length_map]
  rw [hlen,preSum_list is _ (Nat.le_refl _),List.take_length]
 rcases hq with hq|hq
 ·obtain ⟨its,rv,pl,hz⟩:=I.list hq
  refine call_sum_walkAnyS (wpAny_pyIter_list pl.isList ?_)
  have hne:p≠s.heap.objs.size:=by
   obtain ⟨o,ho,_⟩:=pl.isList
   exact Nat.ne_of_lt (Heap.lt_size ho)
  refine ⟨s.heap.objs.size,_,_,_,_,_,_,fun i=>is.getD i 0,rfl,(Walks.list hh _ p hne its.toArray).toS,⟨⟨_,Heap.get?_push_size _ rfl,rfl,rfl⟩,pl.isList.push _⟩,?_,fun i v hv=>ints_vals rv hv,fun s' t' m=>?_⟩
  ·intro b hb
   show b<(s.heap.push _).objs.size
   rw [Heap.size_push]
   obtain ⟨o,ho,_⟩:=pl.isList
   have hp:=Heap.lt_size ho
   simp only [List.mem_cons,List.not_mem_nil,or_false] at hb
   rcases hb with rfl|rfl
   ·exact Nat.lt_succ_self _
   ·exact Nat.lt_succ_of_lt hp
  ·refine ⟨.int is.sum,H,moved_kept I m (fun b o e=>Heap.get?_push_of_some _ e) (fun b hb=>?_) ⟨rfl,rfl,rfl⟩,⟨t',?_⟩,q⟩
   ·have e:b=s.heap.objs.size:=by simpa using hb
    exact Nat.le_of_eq e.symm
   ·rw [fin its rv]
 ·obtain ⟨its,rv,pl,hz⟩:=I.tuple hq
  refine call_sum_walkAnyS (wpAny_pyIter_tuple (show s.heap.IsTuple p its.toArray from pl) ?_)
  have hne:p≠s.heap.objs.size:=by
   obtain ⟨o,ho,_⟩:=pl
   exact Nat.ne_of_lt (Heap.lt_size ho)
  refine ⟨s.heap.objs.size,_,_,_,_,_,_,fun i=>is.getD i 0,rfl,(Walks.tuple hh _ p hne its.toArray).toS,⟨⟨_,Heap.get?_push_size _ rfl,rfl,rfl⟩,PySem.Heap.IsTuple.push pl _⟩,?_,fun i v hv=>ints_vals rv hv,fun s' t' m=>?_⟩
  ·intro b hb
   show b<(s.heap.push _).objs.size
   rw [Heap.size_push]
   obtain ⟨o,ho,_⟩:=pl
   have hp:=Heap.lt_size ho
   simp only [List.mem_cons,List.not_mem_nil,or_false] at hb
   rcases hb with rfl|rfl
   ·exact Nat.lt_succ_self _
   ·exact Nat.lt_succ_of_lt hp
  ·refine ⟨.int is.sum,H,moved_kept I m (fun b o e=>Heap.get?_push_of_some _ e) (fun b hb=>?_) ⟨rfl,rfl,rfl⟩,⟨t',?_⟩,q⟩
   ·have e:b=s.heap.objs.size:=by simpa using hb
    exact Nat.le_of_eq e.symm
   ·rw [fin its rv]
end
noncomputable def minM:MF:=fun ds μ=>match ds with
 | [.int i,.int j]=>some (.int (if j<i then j else i),μ)
 | _=>none
noncomputable def maxM:MF:=fun ds μ=>match ds with
 | [.int i,.int j]=>some (.int (if j>i then j else i),μ)
 | _=>none
theorem minM_ok {K:PySem.W.Frag}:CallD K minM (fun xs H Q=>∃ i j,xs=[.int i,.int j]/\Q (.int (if j<i then j else i)) H):=by
 intro π H μ xs d μ' vs Q R i hm k
 unfold minM at hm
 split at hm
 ·cases hm
  cases i with
  | cons i t=>
   cases i
   cases t with
   | cons i2 t2=>
    cases i2
    cases t2
    exact ⟨_,_,rfl,k π _ H .refl R (.int _)⟩
 ·cases hm
theorem maxM_ok {K:PySem.W.Frag}:CallD K maxM (fun xs H Q=>∃ i j,xs=[.int i,.int j]/\Q (.int (if j>i then j else i)) H):=by
 intro π H μ xs d μ' vs Q R i hm k
 unfold maxM at hm
 split at hm
 ·cases hm
  cases i with
  | cons i t=>
   cases i
   cases t with
   | cons i2 t2=>
    cases i2
    cases t2
    exact ⟨_,_,rfl,k π _ H .refl R (.int _)⟩
 ·cases hm
noncomputable def pickS {α:Type}(xs:List α)(lo hi st:Option Int):List α:=(sliceRange (sliceBounds lo hi st xs.length).1 (sliceBounds lo hi st xs.length).2.1 (sliceBounds lo hi st xs.length).2.2).filterMap (xs[·]?)
noncomputable def mSliceS (a:ME)(lo hi st:MO):ME:=fun ρ μ=>(a ρ μ).bind fun p=>(lo ρ p.2).bind fun q=>(hi ρ q.2).bind fun r=>(st ρ r.2).bind fun t=>
 if t.1≠some 0 then (lstD t.2 p.1).bind fun xs=>if (pickS xs q.1 r.1 t.1).length<=sizeLine then some (.loc t.2.length,t.2++[.lst (pickS xs q.1 r.1 t.1)]) else none else none
theorem pick_is {K:PySem.W.Frag}{π:Nat->Addr}{n:Nat}{H:Hp}{vs:List V}{ds:List D}(h:IsDs K π n H vs ds)(lo hi st:Option Int):IsDs K π n H (pickS vs lo hi st) (pickS ds lo hi st):=by
 unfold pickS
 rw [h.length]
 generalize sliceRange _ _ _=l
 induction l with
 | nil=>exact .nil
 | cons i l ih=>
  rw [List.filterMap_cons,List.filterMap_cons]
  cases hi:ds[i]? with
  | none=>
   have:vs[i]? = none:=by
    rw [List.getElem?_eq_none_iff] at hi ⊢
    rw [h.length];exact hi
   rw [this]
   exact ih
  | some d=>
   obtain ⟨v,h1,h2⟩:=h.get hi
   rw [h1]
   exact .cons h2 ih
theorem pick_vals {vs:List V}{its:List Value}(r:Vals vs its)(lo hi st:Option Int):Vals (pickS vs lo hi st) (pickS its lo hi st):=by
 unfold pickS
 rw [r.length]
 generalize sliceRange _ _ _=l
 induction l with
 | nil=>exact .nil
 | cons i l ih=>
  rw [List.filterMap_cons,List.filterMap_cons]
  cases hi:vs[i]? with
  | none=>
   have:its[i]? = none:=by
    rw [List.getElem?_eq_none_iff] at hi ⊢
    rw [<- r.length];exact hi
   rw [this]
   exact ih
  | some v=>
   obtain ⟨u,h1,h2⟩:=r.get hi
   rw [h1]
   exact .cons h2 ih
section
variable {X:Cx}{e:Expr}{te:TE}{lo hi:Option Expr}{st:Expr}{tl th tt:TO}{pos p2:Pos}
noncomputable def tSlS (K:PySem.W.Frag)(te:TE)(tl th tt:TO):TE:=fun σ H Q=>te σ H fun x H1=>tl σ H1 fun l H2=>th σ H2 fun u H3=>tt σ H3 fun t H4=>t≠some 0/\∃ a xs,x=.ref a/\SqL K H4 a xs/\(pickS xs l u t).length<=sizeLine/\∀ p,H4 p=none->Q (.ref p) (upd H4 p (.lst (pickS xs l u t)))
open PyProof.Rows in
theorem pe_sliceS (he:PE X e te)(hl:PO X lo tl)(hu:PO X hi th)(ht:PO X (some st) tt):PE X (.Subscript e (.Slice lo hi (some st) p2) pos) (tSlS X.K te tl th tt):=by
 intro pins s σ H Q I h
 refine Subscript_ (thn (he pins s σ H _ I h) fun v s1 ⟨x,H1,I1,r1,q1⟩=>?_)
 refine wpAny_Slice (thn (hl pins s1 σ H1 _ I1 q1) fun vl s2 ⟨l,H2,I2,pl,q2⟩=>thn (hu pins s2 σ H2 _ I2 q2) fun vu s3 ⟨u,H3,I3,pu,q3⟩=>thn (ht pins s3 σ H3 _ I3 q3) fun vt s4 ⟨t,H4,I4,pt,q4⟩=>?_)
 obtain ⟨h0,a,xs,rfl,hx,hz,q⟩:=q4
 cases r1
 have I5:Inv X pins σ H4 { s4 with heap:=s4.heap.push { cls:=.type "slice",data:=.fields #[vl,vu,vt] } }:=I4.kept (t':=s4.toks) fun b ob q=>Heap.get?_push_of_some _ q
 obtain ⟨its,r,hl',hz'⟩:=I5.list hx
 have hlen:=r.length
 show wpAny (model X.prog X.w) X.A (subscriptTail e (.Slice lo hi (some st) p2) (.ref a) (.ref s4.heap.objs.size)) (EP X pins σ Q) X.xe { s4 with heap:=s4.heap.push { cls:=.type "slice",data:=.fields #[vl,vu,vt] } }
 refine tail_any (ops:=[.ref a,.ref s4.heap.objs.size]) hl'.isList.typeIs slot_list_getitem.lookup ?_ (by with_unfolding_all rfl)
 refine wpAny_getItem_list_slice hl'.isList (Heap.IsSliceOf.new ..) pl pu pt h0 ?_ (by rw [List.size_toArray]<;>omega)
 have hpick:slicePick its.toArray l u t=(pickS its l u t).toArray:=by
  unfold slicePick pickS
  simp
 rw [hpick]
 refine ⟨.ref _,_,I5.laid (t':=s4.toks) (o:=.lst (pickS xs l u t)) (fun b ob q=>Heap.get?_push_of_some _ q) (Nat.le_refl _) ?_,rfl,q _ (I5.hok.fresh (Nat.le_refl _))⟩
 exact ⟨hz,_,0,pick_vals r l u t,Heap.get?_push_size _ rfl⟩
theorem e_sliceS {me:ME}{ml mh mt:MO}(he:QE X e me)(hl:QO X lo ml)(hu:QO X hi mh)(ht:QO X (some st) mt):QE X (.Subscript e (.Slice lo hi (some st) p2) pos) (mSliceS me ml mh mt):=⟨pm_weak (pe_sliceS he.h hl.h hu.h ht.h) (by
 rintro σ H Q ⟨π,ρ,μ,d,μ',R,E,hm,k⟩
 obtain ⟨⟨x,μ1⟩,h1,hm⟩:=Option.bind_eq_some_iff.mp hm
 obtain ⟨⟨l,μ2⟩,h2,hm⟩:=Option.bind_eq_some_iff.mp hm
 obtain ⟨⟨u,μ3⟩,h3,hm⟩:=Option.bind_eq_some_iff.mp hm
 obtain ⟨⟨t,μ4⟩,h4,hm⟩:=Option.bind_eq_some_iff.mp hm
 refine ⟨π,ρ,μ,x,μ1,R,E,h1,fun π1 v1 H1 e1 R1 i1=>⟨π1,ρ,μ1,l,μ2,R1,E.mono e1,h2,fun π2 H2 e2 R2=>⟨π2,ρ,μ2,u,μ3,R2,(E.mono e1).mono e2,h3,fun π3 H3 e3 R3=>⟨π3,ρ,μ3,t,μ4,R3,((E.mono e1).mono e2).mono e3,h4,fun π4 H4 e4 R4=>?_⟩⟩⟩⟩
 split at hm
 ·rename_i h0
  obtain ⟨xs,h5,hm⟩:=Option.bind_eq_some_iff.mp hm
  split at hm
  ·rename_i hz
   cases hm
   obtain ⟨p,vs,rfl,q,hd⟩:=lst_of R4 (((i1.mono e2).mono e3).mono e4) h5
   have hpk:=pick_is hd l u t
   refine ⟨h0,p,vs,rfl,q,by rw [hpk.length];exact hz,fun p' hp=>?_⟩
   obtain ⟨e5,R5,_⟩:=R4.alloc (c:=.lst (pickS xs l u t)) (o:=.lst (pickS vs l u t)) hp hpk
   exact k _ _ _ ((((e1.trans e2).trans e3).trans e4).trans e5) R5 alloc_loc
  ·cases hm
 ·cases hm)⟩
end
section
variable {X:Cx}{pins:List (Addr×Obj)}{σ:St}{H:Hp}{s:Shared}{h':Heap}
theorem turned_laid {t':Nat}{ch:List Addr}{a:Addr}{o:HO}(I:Inv X pins σ H s)(k:∀ b u,b∉ch->s.heap.get? b=some u->h'.get? b=some u)(hf:∀ b∈ch,FpOk X pins H b)(hp:s.heap.objs.size<=a)
  (new:ObjOk X.prog X.w (upd H a o) h' a o):Inv X pins σ (upd H a o) { s with heap:=h',toks:=t' }:=by
 have hn:=I.hok.fresh hp
 have nit:∀ b u,H b=some u->b∉ch:=fun b u e z=>by
  have:=(hf b z).1
  rw [e] at this;cases this
 refine I.step (g':=s.gens) (d':=s.drawn) (ch:=ch) (fun b hb=>let ⟨f0,f1,f2,f3,f4,f5⟩:=hf b hb;⟨f3,f1,f4,f5⟩) (fun b o _ _ hc e _=>k b o hc e) (fun b o _ _ hc e _=>⟨o.slots,k b o hc e⟩) (fun b ob hc e n=>?_)
  (fun b o hc e=>⟨o,k b o hc e⟩) (fun b xs q=>?_) (fun b ob xs q=>?_) (fun b ps q=>?_) (fun m hm=>?_) (fun b u e=>?_) I.bare
 ·rw [upd_ne (Nat.ne_of_lt (Nat.lt_of_lt_of_le (Heap.lt_size e) hp))];exact n
 ·rw [upd_ne (ne_of_none q hn)];exact q
 ·rw [upd_ne (ne_of_none q hn)];exact q
 ·exact ⟨#[],by rw [upd_ne (ne_of_none q hn),q];simp⟩
 ·obtain ⟨o,es,ep,ho,r⟩:=hm
  exact ⟨o,es,ep,k _ o (fun z=>(hf _ z).2.1 rfl) ho,r⟩
 ·by_cases hb:b=a
  ·subst hb;rw [upd_same] at e;cases e;exact new
  ·rw [upd_ne hb] at e
   refine (I.hok b u e).stay (fun c v hc q=>k c v ?_ q) (fun c q=>by rw [upd_ne (ne_of_none q hn)];exact q) fun c xs q=>by rw [upd_ne (ne_of_none q hn)];exact q
   rcases hc with z|z
   ·rw [z];exact nit b u e
   ·exact nit c _ z
theorem turned_kept {t':Nat}{ch:List Addr}(I:Inv X pins σ H s)(k:∀ b u,b∉ch->s.heap.get? b=some u->h'.get? b=some u)(hf:∀ b∈ch,FpOk X pins H b):Inv X pins σ H { s with heap:=h',toks:=t' }:=by
 have nit:∀ b u,H b=some u->b∉ch:=fun b u e z=>by
  have:=(hf b z).1
  rw [e] at this;cases this
 refine I.step (g':=s.gens) (d':=s.drawn) (ch:=ch) (fun b hb=>let ⟨f0,f1,f2,f3,f4,f5⟩:=hf b hb;⟨f3,f1,f4,f5⟩) (fun b o _ _ hc e _=>k b o hc e) (fun b o _ _ hc e _=>⟨o.slots,k b o hc e⟩) (fun b ob hc e n=>n)
  (fun b o hc e=>⟨o,k b o hc e⟩) (fun b xs q=>q) (fun b ob xs q=>q) (fun b ps q=>⟨#[],by rw [q];simp⟩) (fun m hm=>?_) (fun b u e=>?_) I.bare
 ·obtain ⟨o,es,ep,ho,r⟩:=hm
  exact ⟨o,es,ep,k _ o (fun z=>(hf _ z).2.1 rfl) ho,r⟩
 ·refine (I.hok b u e).stay (fun c v hc q=>k c v ?_ q) (fun c q=>q) fun c xs q=>q
  rcases hc with z|z
  ·rw [z];exact nit b u e
  ·exact nit c _ z
end
noncomputable def Ite (K:PySem.W.Frag)(a:Addr):It:=
 ⟨fun i H=>∃ xs x,SqL K H a xs/\xs[i]? = some x,fun i H x H'=>∃ p v,x=.ref p/\H p=none/\H'=upd H p (.tup [.int i,v])/\∀ xs,SqL K H a xs->xs[i]? = some v,fun i H=>∃ xs,SqL K H a xs/\xs.length<=i⟩
theorem turn_enum {P:Program}{w:World}{K:PySem.W.Frag}{es:List Expr}{kx:Nat}{pt:Pos}(a e it:Addr)(hei:e≠it) :
  Turn P w K (.Tuple es kx pt) (Ite K a) [e,it] e (fun i h=>∃ old,IsEnum h e it i old/\h.IsListIter it a i) where
 mem:=by simp
 obj:=fun i h ⟨old,st,st2⟩ b hb=>by
  have hb':b=e\/b=it:=by simpa using hb
  rcases hb' with rfl|rfl
  ·exact ⟨_,st,fun v z=>by
    have z':Data.fields _=Data.cell v:=z
    cases z'⟩
  ·obtain ⟨o,e1,c,d⟩:=st2
   exact ⟨o,e1,fun v z=>by rw [d] at z;cases z⟩
 keep:=fun i h h' ⟨old,st,st2⟩ k=>⟨old,k e (by simp) _ st,st2.at fun o e1=>k it (by simp) o e1⟩
 item:=by
  intro X hP hw hK hc i pins s σ H E I hf ⟨old,st,st2⟩ hg
  subst hP hw hK
  obtain ⟨xs,x,hq,hx⟩:=hg
  obtain ⟨its,rv,p,hz⟩:=I.list hq
  obtain ⟨u,hu,ru⟩:=rv.get hx
  refine wpAny_pyNext_enum_item st st2 p.isList (x:=u) (by simpa using hu) hei fun h1 ho hit ht hsz hk=>⟨_,rfl,wpAny_letOwnedTupleGo_enum ho fun h2 he2 hs2=>?_⟩
  have hlt:e<s.heap.objs.size:=Heap.lt_size st
  have hne:s.heap.objs.size≠e:=Nat.ne_of_gt hlt
  have ht2:h2.get? s.heap.objs.size=some { cls:=.type "tuple",data:=.seq #[.int i s.toks,u] }:=(hs2.2 _ hne).trans ht
  have hfr:H s.heap.objs.size=none:=I.hok.fresh (Nat.le_refl _)
  refine ⟨.ref s.heap.objs.size,upd H s.heap.objs.size (.tup [.int i,x]),?_,rfl,⟨s.heap.objs.size,x,rfl,hfr,rfl,fun ys hy=>by rw [I.list_inj hy hq];exact hx⟩,⟨u,he2,hit.extBut hs2.extBut (Ne.symm hei)⟩,fun b hb=>?_⟩
  ·refine turned_laid (s:=s) (h':=h2) (t':=s.toks+1) (ch:=[e,it]) I (fun b ob hb eb=>?_) hf (Nat.le_refl _) ?_
   ·have hb':b≠e/\b≠it:=by simpa using hb
    exact (hs2.2 b hb'.1).trans (hk b ob hb'.1 hb'.2 eb)
   ·exact ⟨by show (2:Nat)<=sizeLine;decide,[.int i s.toks,u],.cons ⟨_,rfl⟩ (.cons ru .nil),_,ht2,rfl,0,rfl,rfl⟩
  ·have hb':b=e\/b=it:=by simpa using hb
   have hn:=(hf b hb).1
   obtain ⟨o,ho2,_⟩:=st2
   rw [upd_ne]
   ·exact hn
   ·rcases hb' with rfl|rfl
    ·exact Nat.ne_of_lt hlt
    ·exact Nat.ne_of_lt (Heap.lt_size ho2)
 done:=by
  intro X hP hw hK hc i pins s σ H E I hf ⟨old,st,st2⟩ hg
  subst hP hw hK
  obtain ⟨xs,hq,hx⟩:=hg
  obtain ⟨its,rv,p,hz⟩:=I.list hq
  have hl:=rv.length
  refine wpAny_pyNext_enum_end (I.ok.hd hc) st st2 p.isList (by simp;omega) fun h' eb=>⟨rfl,turned_kept (t':=s.toks) (ch:=[e,it]) I (fun b o hb z=>eb b o ?_ z) hf⟩
  have hb':b≠e/\b≠it:=by simpa using hb
  exact hb'.2
 self:=fun _ _ _ _ _ ⟨old,st,_⟩ h=>wpAny_pyIter_enum st h
structure QJT (X:Cx)(e:Expr)(m:MI):Prop where
 h:∀ es k p,PI X (.Tuple es k p) e (tMI X.K m)
theorem QJ.t {X:Cx}{e:Expr}{m:MI}(h:QJ X e m):QJT X e m:=⟨fun es k p=>h.h _⟩
noncomputable def srcEnum (x:D):Src:=fun μ i=>(seqD μ x).map fun xs=>(xs[i]?).map fun d=>.tup [.int i,d]
noncomputable def iEnumD (ms:MA):MI:=fun ρ μ=>(ms ρ μ).bind fun p=>match p.1 with
 | [x]=>(lstD p.2 x).map fun xs=>(srcEnum x,xs.length+1,p.2)
 | _=>none
theorem wk_enum {K:PySem.W.Frag}{π:Nat->Addr}{μ:Hm}{H:Hp}{v:V}{x:D}{xs:List D}(R:Rp K π H μ)(h:IsD K π μ.length H v x)(hs:lstD μ x=some xs):∃ a,v=.ref a/\(∃ vs,SqL K H a vs)/\Wk K (Ite K a) (srcEnum x) π μ.length H:=by
 have hw:seqD μ x=some xs:=by
  cases x with
  | rol ys=>exact hs
  | loc b=>exact hs
  | _=>cases hs
 obtain ⟨p,vs,rfl,hq,_⟩:=lst_of R h hs
 refine ⟨p,rfl,⟨vs,hq⟩,?_⟩
  -- the list as it stands later
 have later:∀ π' μ' H',Ext π μ.length H π' μ'.length H'->Rp K π' H' μ'->∀ ys,seqD μ' x=some ys->∃ ws,SqL K H' p ws/\IsDs K π' μ'.length H' ws ys:=fun π' μ' H' e R' ys hy=>by
  have i':=h.mono e
  have hl:lstD μ' x=some ys:=by
   cases x with
   | rol zs=>exact hy
   | loc b=>exact hy
   | _=>cases hs
  obtain ⟨p',ws,e1,q1,d1⟩:=lst_of R' i' hl
  cases e1
  exact ⟨ws,q1,d1⟩
 refine ⟨fun π' μ' H' i e R' z=>?_,fun π' μ' H' i d e R' z=>?_⟩
 ·obtain ⟨ys,h1,h2⟩:=Option.map_eq_some_iff.mp z
  obtain ⟨ws,q1,d1⟩:=later π' μ' H' e R' ys h1
  have h3:ys[i]? = none:=by
   cases q:ys[i]? with
   | none=>rfl
   | some d=>rw [q] at h2;cases h2
  exact ⟨ws,q1,by rw [d1.length];exact List.getElem?_eq_none_iff.mp h3⟩
 ·obtain ⟨ys,h1,h2⟩:=Option.map_eq_some_iff.mp z
  obtain ⟨d',h3,h4⟩:=Option.map_eq_some_iff.mp h2
  subst h4
  obtain ⟨ws,q1,d1⟩:=later π' μ' H' e R' ys h1
  obtain ⟨v,h5,h6⟩:=d1.get h3
  refine ⟨⟨ws,v,q1,h5⟩,?_⟩
  rintro y H2 ⟨t,v',rfl,hn,rfl,hv⟩
  have:=hv ws q1
  rw [h5] at this
  cases this
  obtain ⟨e2,R2⟩:=R'.fresh (o:=.tup [.int i,v]) hn
  exact ⟨e2,R2,.tup (.of upd_same) (.cons (.int _) (.cons (h6.mono e2) .nil))⟩
noncomputable def iEnum (K:PySem.W.Frag)(ta:TA):TI:=fun σ H R=>ta σ H fun vs H1=>∃ a,vs=[.ref a]/\(∃ xs,SqL K H1 a xs)/\R (Ite K a) H1
open PyProof.Rows in
theorem pi_enum {X:Cx}{a:Expr}{ta:TA}{p pos pt:Pos}{es:List Expr}{kx:Nat}(hg:Gl X "enumerate") (hm:X.mg "enumerate" = none) (ha:PA X [a] ta)(hs:starEach [a] X.env=[(false,eval a X.env)]):PI X (.Tuple es kx pt) (.Call (.Name "enumerate" p) [a] [] pos) (iEnum X.K ta):=by
 intro pins s σ H R I h
 refine Call_ (ld_blt I hg hm Boot.«enumerate» (callWith_type1 (thn (ha pos pins s σ H _ I h) fun us s1 ⟨vs,H1,I1,r1,q1⟩=>?_) hs rfl))
 obtain ⟨a0,rfl,⟨ws,hq⟩,q⟩:=q1
 obtain ⟨u,rfl,ru⟩:=vals1 r1
 cases ru
 obtain ⟨its,rv,pl,hz⟩:=I1.list hq
 refine call_enumerate_list pl.isList fun h' he hit hsz hk=>?_
 refine wpAny_pyIter_enum he ?_
 have I2:Inv X pins σ H1 { s1 with heap:=h' }:=I1.kept (t':=s1.toks) hk
 refine ⟨s1.heap.objs.size+1,[s1.heap.objs.size+1,s1.heap.objs.size],_,_,H1,rfl,I2,turn_enum a0 _ _ (Nat.succ_ne_self _),⟨_,he,hit⟩,fun b hb=>?_,q⟩
 have hb':b=s1.heap.objs.size+1\/b=s1.heap.objs.size:=by simpa using hb
 rcases hb' with rfl|rfl
 ·exact I1.fpOk (Nat.le_succ _) (I1.hok.fresh (Nat.le_succ _))
 ·exact I1.fpOk (Nat.le_refl _) (I1.hok.fresh (Nat.le_refl _))
theorem j_enum {X:Cx}{a:Expr}{ms:MA}{n:Nat}{p pos:Pos}(hgl:Gl X "enumerate") (hmg:X.mg "enumerate" = none) (ha:QA X [a] ms n):QJT X (.Call (.Name "enumerate" p) [a] [] pos) (iEnumD ms):=⟨fun es kx pt pins s σ H R I hw=>by
 have hs:=ha.s
 rw [List.all_cons,Bool.and_eq_true] at hs
 obtain ⟨π,ρ,μ,src,n',μ',Rr,E,hm,k⟩:=hw
 obtain ⟨⟨x,μ1⟩,h1,hm⟩:=Option.bind_eq_some_iff.mp hm
 refine pi_enum hgl hmg ha.h (star_cons hs.1) pins s σ H R I ⟨π,ρ,μ,x,μ1,Rr,E,h1,fun π1 vs H1 e1 R1 i1=>?_⟩
 dsimp only at hm
 split at hm
 ·rename_i x
  obtain ⟨xs,h2,hm⟩:=Option.map_eq_some_iff.mp hm
  cases hm
  cases i1 with
  | cons i1 t1=>
   cases t1
   obtain ⟨a0,rfl,hq,W⟩:=wk_enum R1 i1 h2
   exact ⟨a0,rfl,hq,k π1 H1 _ e1 R1 W⟩
 ·cases hm⟩
section
variable {X:Cx}{pos:Pos}
theorem s_forG {tg iter:Expr}{mi:MI}{g:MG}{mb:MS}{body:List Stmt}(hi:PI X tg iter (tMI X.K mi))(hg:QG X tg g)(hb:QB X body mb)(hp:PassesOwn (model X.prog X.w) X.A X.env X.xe)(hc:X.calm=true)(hs:noSet iter=true) :
  QS X (.For tg iter body [] pos) (mForI mi g mb):=⟨pms_weak (ps_for hp hc hi hg.h hb.h (by intro z;cases iter<;>first|rfl|cases hs)) (by
 rintro E σ H ⟨π,ρ,μ,fl,ρ',μ',R,EN,hm,k⟩
 obtain ⟨⟨src,n,μ1⟩,h1,hm⟩:=Option.bind_eq_some_iff.mp hm
 refine ⟨π,ρ,μ,src,n,μ1,R,EN,h1,fun π1 H1 J e1 R1 W=>?_⟩
 have kk:FlOk X.K E π1 μ1.length H1 fl ρ' μ':=by
  cases fl with
  | nx=>exact fun π3 σ3 H3 e3 R3 E3=>k π3 σ3 H3 (e1.trans e3) R3 E3
  | bk=>exact fun π3 σ3 H3 e3 R3 E3=>k π3 σ3 H3 (e1.trans e3) R3 E3
  | ct=>exact fun π3 σ3 H3 e3 R3 E3=>k π3 σ3 H3 (e1.trans e3) R3 E3
  | rt d=>exact KC.after k e1
 exact go_read W kk .refl R1 (EN.mono e1) hm)⟩
noncomputable def mPutG (put:D->D->D->Hm->Option Hm)(o i v:ME):MS:=fun ρ μ=>(v ρ μ).bind fun p=>(o ρ p.2).bind fun q=>(i ρ q.2).bind fun r=>(put q.1 r.1 p.1 r.2).map fun μ'=>(.nx,ρ,μ')
noncomputable def putL:D->D->D->Hm->Option Hm
 | .loc a,.int i,d,μ=>match μ[a]? with
  | some (.lst xs)=>(ixN xs.length i).map fun j=>μ.set a (.lst (xs.set j d))
  | _=>none
 | _,_,_,_=>none
noncomputable def putM:D->D->D->Hm->Option Hm:=putL
noncomputable def mPut:=mPutG putM
theorem isDs_set {K:PySem.W.Frag}{π:Nat->Addr}{n:Nat}{H:Hp}:∀ {vs:List V}{ds:List D}(j:Nat){v:V}{d:D},IsDs K π n H vs ds->IsD K π n H v d->IsDs K π n H (vs.set j v) (ds.set j d)
 | _,_,j,_,_,.nil,h=>by simp;exact .nil
 | _,_,0,_,_,.cons _ t,h=>.cons h t
 | _,_,j+1,_,_,.cons h0 t,h=>.cons h0 (isDs_set j t h)
noncomputable def sLPut (td ty tv:TE):TS:=fun D σ H=>tv σ H fun v H1=>td σ H1 fun x H2=>ty σ H2 fun y H3=>rSetL x y v H3 fun H4=>D.nx σ H4
open PyProof.Rows in
theorem ps_lput {o i value:Expr}{pos':Pos}{td ty tv:TE}(ho:PE X o td)(hi:PE X i ty)(hv:PE X value tv)(hs:swapsWith value (some (.Subscript o i pos')) pos.line X.env=pure false):PS X (.Assign [.Subscript o i pos'] value pos) (sLPut td ty tv):=by
 intro pins s σ H D I h
 refine wpAny_Assign_Subscript (thn (hv pins s σ H _ I h) fun r s1 ⟨v,H1,I1,rv,q1⟩=>thn (ho pins s1 σ H1 _ I1 q1) fun u s2 ⟨x,H2,I2,rx,q2⟩=>thn (hi pins s2 σ H2 _ I2 q2) fun iv s3 ⟨y,H3,I3,ry,q3⟩=>?_) hs
 exact thn (set_list pins s3 σ H3 x y v u iv r _ I3 rx ry rv q3) fun _ s4 ⟨H4,I4,q4⟩=>⟨σ,H4,I4,q4⟩
theorem s_putL {o i e:Expr}{mo mi me:ME}{tpos:Pos}(ho:QE X o mo)(hi:QE X i mi)(he:QE X e me)(h:noComp e=true):QS X (.Assign [.Subscript o i tpos] e pos) (mPutG putL mo mi me):=
 ⟨pms_weak (ps_lput ho.h hi.h he.h (swaps_of h)) (by
 rintro E σ H ⟨π,ρ,μ,fl,ρ',μ',R,EN,hm,k⟩
 obtain ⟨⟨x,μ1⟩,h1,hm⟩:=Option.bind_eq_some_iff.mp hm
 obtain ⟨⟨y,μ2⟩,h2,hm⟩:=Option.bind_eq_some_iff.mp hm
 obtain ⟨⟨z,μ3⟩,h3,hm⟩:=Option.bind_eq_some_iff.mp hm
 obtain ⟨μ4,h4,hm⟩:=Option.map_eq_some_iff.mp hm
 cases hm
 refine ⟨π,ρ,μ,x,μ1,R,EN,h1,fun π1 v1 H1 e1 R1 i1=>⟨π1,ρ,μ1,y,μ2,R1,EN.mono e1,h2,fun π2 v2 H2 e2 R2 i2=>⟨π2,ρ,μ2,z,μ3,R2,(EN.mono e1).mono e2,h3,fun π3 v3 H3 e3 R3 i3=>?_⟩⟩⟩
 dsimp only at h4
 cases y with
 | loc a=>
  cases z with
  | int i=>
   simp only [putL] at h4
   split at h4
   ·rename_i xs hx
    obtain ⟨j,h5,h6⟩:=Option.map_eq_some_iff.mp h4
    subst h6
    obtain ⟨vs,h7,h8⟩:=R3.lst _ xs hx
    have i2':=i2.mono e3
    cases i2'
    cases i3
    have hlt:=(List.getElem?_eq_some_iff.mp hx).1
    have iv:=(i1.mono e2).mono e3
    refine ⟨_,vs,i,j,rfl,rfl,h7,by rw [h8.length];exact h5,?_⟩
    obtain ⟨e4,R4⟩:=R3.put (c:=.lst (xs.set j x)) (o:=.lst (vs.set j v1)) hlt h7 (.inl ⟨vs,rfl⟩) (isDs_set j h8 iv)
    exact k π3 σ _ (((e1.trans e2).trans e3).trans e4) R4 ((((EN.mono e1).mono e2).mono e3).mono e4)
   ·cases h4
  | _=>simp [putL] at h4
 | _=>simp [putL] at h4)⟩
theorem s_put {kk:Nat}(hr:Room kk X.A){o i e:Expr}{mo mi me:ME}{tpos:Pos}(ho:QE X o mo)(hi:QE X i mi)(he:QE X e me)(h:noComp e=true):QS X (.Assign [.Subscript o i tpos] e pos) (mPut mo mi me):=s_putL ho hi he h
theorem s_badSet {st:Stmt}{i:Nat}:QS X st (mSet i mBad):=⟨fun pins s σ H D I q=>by
 obtain ⟨π,ρ,μ,fl,ρ',μ',R,E,hm,k⟩:=q
 cases hm⟩
end
end L3
namespace L3
open PySem L2
noncomputable def insAt {α:Type}(xs:List α)(k:Nat)(d:α):List α:=xs.take k++d::xs.drop k
theorem Vals.ins {xs:List V}{us:List Value}(h:Vals xs us)(k:Nat){v:V}{u:Value}(r:RelV v u):Vals (insAt xs k v) (insAt us k u):=(h.take k).append (.cons r (h.drop k))
section
variable {X:Cx}
end
section
variable {X:Cx}
end
noncomputable def strsD:List D->Option (List Str)
 | []=>some []
 | .str x::r=>(strsD r).map (x::·)
 | _=>none
section
variable {X:Cx}{e o:Expr}{mo:ME}{apos cpos:Pos}{es:List Expr}{ms:MA}{n:Nat}
end
theorem strsD_eq:∀ {ds:List D}{k:List Str},strsD ds=some k->ds=k.map D.str
 | [],k,h=>by cases h;rfl
 | d::ds,k,h=>by
  cases d with
  | str i=>
   obtain ⟨k',h1,h2⟩:=Option.map_eq_some_iff.mp h
   subst h2
   rw [strsD_eq h1];rfl
  | _=>cases h
theorem strs_of' {K:PySem.W.Frag}{π:Nat->Addr}{n:Nat}{H:Hp}:∀ {vs:List V}{k:List Str},IsDs K π n H vs (k.map D.str)->vs=k.map V.str
 | _,[],h=>by cases h;rfl
 | _,i::k,h=>by
  cases h with
  | cons h t=>cases h;rw [strs_of' t];rfl
noncomputable def sortI (is:List Int):List Int:=is.mergeSort fun a b=>decide (a<=b)
theorem sortI_is {is ns:List Int}(hp:ns.Perm is)(hs:ns.Pairwise (·<=·)):ns=sortI is:=by
 have h1:(sortI is).Perm is:=List.mergeSort_perm _ _
 have h2:(sortI is).Pairwise (·<=·):=by
  have:=List.pairwise_mergeSort (le:=fun a b:Int=>decide (a<=b)) (fun a b c h1 h2=>by simp only [decide_eq_true_eq] at *;omega) (fun a b=>by simp only [Bool.or_eq_true,decide_eq_true_eq];omega) is
  exact this.imp fun h=>by simpa using h
 exact List.Perm.eq_of_pairwise (le:=fun a b:Int=>a<=b) (fun a b _ _ h1 h2=>by omega) hs h2 (hp.trans h1.symm)
noncomputable def sortIM:MF:=fun ds μ=>match ds with
 | [x]=>(lstD μ x).bind fun xs=>(intsD xs).bind fun is=>if is.length<64 then some (.loc μ.length,μ++[.lst ((sortI is).map D.int)]) else none
 | _=>none
noncomputable def rSortI (K:PySem.W.Frag):List V->Hp->VK->Prop:=fun xs H Q=>∃ (p:Addr)(is:List Int),xs=[.ref p]/\SqL K H p (is.map V.int)/\is.length<64/\∀ l,H l=none->Q (.ref l) (upd H l (.lst ((sortI is).map V.int)))
theorem sortIM_ok {K:PySem.W.Frag}:CallD K sortIM (rSortI K):=by
 intro π H μ xs d μ' vs Q R i hm k
 unfold sortIM at hm
 split at hm
 ·obtain ⟨ys,h1,hm⟩:=Option.bind_eq_some_iff.mp hm
  obtain ⟨is,h2,hm⟩:=Option.bind_eq_some_iff.mp hm
  split at hm
  ·rename_i hb
   cases hm
   cases i with
   | cons i t=>
    cases t
    obtain ⟨p,ws,rfl,q,hd⟩:=lst_of R i h1
    rw [intsD_eq h2] at hd
    have:=ints_of' hd
    subst this
    refine ⟨p,is,rfl,q,hb,fun l hl=>?_⟩
    obtain ⟨e2,R2,_⟩:=R.alloc (c:=.lst ((sortI is).map D.int)) (o:=.lst ((sortI is).map V.int)) hl (isInts _)
    exact k _ _ _ e2 R2 alloc_loc
  ·cases hm
 ·cases hm
theorem call_sortI {X:Cx}:CallR X (.builtin "sorted") (rSortI X.K):=by
 intro pins s σ H xs us Q I r h
 obtain ⟨p,is,rfl,hq,h64,k⟩:=h
 obtain ⟨u,rfl,ru⟩:=vals1 r
 cases ru
 obtain ⟨its,rv,pl,hz⟩:=I.list hq
 have hlen:=rv.length
 rw [List.length_map] at hlen
 refine PyProof.Rows.sorted_ints pl.isList (intsAre_of rv) (by omega) fun out ns' a1 a2 a3=>?_
 obtain ⟨e,he⟩:=PyProof.Rows.sortedAll_at s.heap its out
 have hn:H (s.heap.objs.size+1)=none:=I.hok.fresh (Nat.le_succ _)
 have e1:ns'=sortI is:=sortI_is a2 a3
 subst e1
 refine ⟨.ref (s.heap.objs.size+1),_,I.laid (t':=s.toks) (a:=s.heap.objs.size+1) (o:=.lst ((sortI is).map V.int)) (fun b ob z=>PyProof.Rows.sortedAll_old z) (Nat.le_succ _) ?_,rfl,k _ hn⟩
 have hl2:(sortI is).length<=sizeLine:=by
  have:=a2.length_eq
  have h5:=sizeLine_eq
  omega
 refine ⟨by rw [List.length_map];exact hl2,out.toList,e,vals_ints a1,?_⟩
 rw [he]
noncomputable def sortedTx:MF:=fun ds μ=>match ds with
 | [x]=>(lstD μ x).bind fun xs=>(strsD xs).bind fun ss=>if 2<=ss.length/\ss.Nodup then some (.loc μ.length,μ++[.lst ((sortTx ss).map D.str)]) else none
 | _=>none
theorem isStrs {K:PySem.W.Frag}{π:Nat->Addr}{n:Nat}{H:Hp}:∀ (k:List Str),IsDs K π n H (k.map V.str) (k.map D.str)
 | []=>.nil
 | x::k=>.cons (.str x) (isStrs k)
theorem sortedTx_ok {K:PySem.W.Frag}:CallD K sortedTx (rSortTx K):=by
 intro π H μ xs d μ' vs Q R i hm k
 unfold sortedTx at hm
 split at hm
 ·obtain ⟨ys,h1,hm⟩:=Option.bind_eq_some_iff.mp hm
  obtain ⟨ss,h2,hm⟩:=Option.bind_eq_some_iff.mp hm
  split at hm
  ·rename_i hb
   cases hm
   cases i with
   | cons i t=>
    cases t
    obtain ⟨p,ws,rfl,q,hd⟩:=lst_of R i h1
    rw [strsD_eq h2] at hd
    have:=strs_of' hd
    subst this
    refine ⟨p,ss,rfl,q,hb.1,hb.2,fun l hl=>?_⟩
    obtain ⟨e2,R2,_⟩:=R.alloc (c:=.lst ((sortTx ss).map D.str)) (o:=.lst ((sortTx ss).map V.str)) hl (isStrs _)
    exact k _ _ _ e2 R2 alloc_loc
  ·cases hm
 ·cases hm
noncomputable def sortedA:MF:=fun ds μ=>match sortIM ds μ with
 | some r=>some r
 | none=>sortedTx ds μ
theorem sortedA_ok {K:PySem.W.Frag}:CallD K sortedA (fun xs H Q=>rSortI K xs H Q\/rSortTx K xs H Q):=by
 intro π H μ xs d μ' vs Q R i hm k
 unfold sortedA at hm
 split at hm
 ·rename_i r hr
  cases hm
  exact .inl (sortIM_ok π H μ xs d μ' vs Q R i hr k)
 ·exact .inr (sortedTx_ok π H μ xs d μ' vs Q R i hm k)
end L3
namespace L3
open PySem L2
section
variable {prog:Program}{w:World}{A:Around}{E:Value->Shared->Prop}{s:Shared}{r:Addr}{Q:Bool->Shared->Prop}
end
section
variable {prog:Program}{w:World}{A:Around}{E:Value->Shared->Prop}{s:Shared}{p a:Addr}{its:Array Value}
end
end L3
namespace L3
open PySem L2
noncomputable def maxAt (is:List Int):Int:=is.getD (argBest (fun i j=>decide (is.getD i 0>is.getD j 0)) (is.length - 1)) 0
noncomputable def maxLM:MF:=fun ds μ=>match ds with
 | [x]=>(lstD μ x).bind fun xs=>(intsD xs).bind fun is=>if 0<is.length then some (.int (maxAt is),μ) else none
 | _=>none
noncomputable def rMaxL (K:PySem.W.Frag):List V->Hp->VK->Prop:=fun xs H Q=>∃ (p:Addr)(is:List Int),xs=[.ref p]/\SqL K H p (is.map V.int)/\0<is.length/\Q (.int (maxAt is)) H
theorem call_maxL {X:Cx}(hc:X.calm=true):CallR X (.builtin "max") (rMaxL X.K):=by
 intro pins s σ H xs us Q I r h
 obtain ⟨p,is,rfl,hq,h0,q⟩:=h
 obtain ⟨u,rfl,ru⟩:=vals1 r
 cases ru
 have hh:X.A.in1.handled=none:=I.ok.hd hc
 obtain ⟨its,rv,pl,hz⟩:=I.list hq
 have hlen:its.toArray.size=is.length:=by rw [List.size_toArray,<- rv.length,List.length_map]
 refine call_max_walkS (wpAny_pyIter_list pl.isList ?_)
 have hne:p≠s.heap.objs.size:=by
  obtain ⟨o,ho,_⟩:=pl.isList
  exact Nat.ne_of_lt (Heap.lt_size ho)
 refine ⟨s.heap.objs.size,_,_,_,_,_,_,_,rfl,(Walks.list hh _ p hne its.toArray).toS,⟨⟨_,Heap.get?_push_size _ rfl,rfl,rfl⟩,pl.isList.push _⟩,?_,by omega,CmpOf.ints_gt (fun i=>is.getD i 0) (fun i v hv=>ints_vals rv hv),fun v s' hv m=>?_⟩
 ·intro b hb
  show b<(s.heap.push _).objs.size
  rw [Heap.size_push]
  obtain ⟨o,ho,_⟩:=pl.isList
  have hp:=Heap.lt_size ho
  simp only [List.mem_cons,List.not_mem_nil,or_false] at hb
  rcases hb with rfl|rfl
  ·exact Nat.lt_succ_self _
  ·exact Nat.lt_succ_of_lt hp
 ·refine ⟨.int (maxAt is),H,moved_kept I m (fun b o e=>Heap.get?_push_of_some _ e) (fun b hb=>?_) ⟨rfl,rfl,rfl⟩,?_,q⟩
  ·have e:b=s.heap.objs.size:=by simpa using hb
   exact Nat.le_of_eq e.symm
  ·obtain ⟨t,rfl⟩:=ints_vals rv hv
   refine ⟨t,?_⟩
   rw [hlen];rfl
theorem maxL_ok {K:PySem.W.Frag}:CallD K maxLM (rMaxL K):=by
 intro π H μ xs d μ' vs Q R i hm k
 unfold maxLM at hm
 split at hm
 ·obtain ⟨ys,h1,hm⟩:=Option.bind_eq_some_iff.mp hm
  obtain ⟨is,h2,hm⟩:=Option.bind_eq_some_iff.mp hm
  split at hm
  ·rename_i h0
   cases hm
   cases i with
   | cons i t=>
    cases t
    obtain ⟨p,ws,rfl,q,hd⟩:=lst_of R i h1
    rw [intsD_eq h2] at hd
    have:=ints_of' hd
    subst this
    exact ⟨p,is,rfl,q,h0,k π _ H .refl R (.int _)⟩
  ·cases hm
 ·cases hm
noncomputable def maxA:MF:=fun ds μ=>match ds with
 | [x]=>maxLM [x] μ
 | _=>maxM ds μ
theorem maxA_ok {K:PySem.W.Frag}{r2:List V->Hp->VK->Prop}(h2:CallD K maxM r2):CallD K maxA (fun xs H Q=>rMaxL K xs H Q\/r2 xs H Q):=by
 intro π H μ xs d μ' vs Q R i hm k
 unfold maxA at hm
 split at hm
 ·exact .inl (maxL_ok π H μ _ d μ' vs Q R i hm k)
 ·exact .inr (h2 π H μ _ d μ' vs Q R i hm k)
noncomputable def minAt (is:List Int):Int:=is.getD (argBest (fun i j=>decide (is.getD i 0<is.getD j 0)) (is.length - 1)) 0
noncomputable def minLM:MF:=fun ds μ=>match ds with
 | [x]=>(lstD μ x).bind fun xs=>(intsD xs).bind fun is=>if 0<is.length then some (.int (minAt is),μ) else none
 | _=>none
noncomputable def rMinL (K:PySem.W.Frag):List V->Hp->VK->Prop:=fun xs H Q=>∃ (p:Addr)(is:List Int),xs=[.ref p]/\SqL K H p (is.map V.int)/\0<is.length/\Q (.int (minAt is)) H
theorem call_minL {X:Cx}(hc:X.calm=true):CallR X (.builtin "min") (rMinL X.K):=by
 intro pins s σ H xs us Q I r h
 obtain ⟨p,is,rfl,hq,h0,q⟩:=h
 obtain ⟨u,rfl,ru⟩:=vals1 r
 cases ru
 have hh:X.A.in1.handled=none:=I.ok.hd hc
 obtain ⟨its,rv,pl,hz⟩:=I.list hq
 have hlen:its.toArray.size=is.length:=by rw [List.size_toArray,<- rv.length,List.length_map]
 refine call_min_walkS (wpAny_pyIter_list pl.isList ?_)
 have hne:p≠s.heap.objs.size:=by
  obtain ⟨o,ho,_⟩:=pl.isList
  exact Nat.ne_of_lt (Heap.lt_size ho)
 refine ⟨s.heap.objs.size,_,_,_,_,_,_,_,rfl,(Walks.list hh _ p hne its.toArray).toS,⟨⟨_,Heap.get?_push_size _ rfl,rfl,rfl⟩,pl.isList.push _⟩,?_,by omega,CmpOf.ints_lt (fun i=>is.getD i 0) (fun i v hv=>ints_vals rv hv),fun v s' hv m=>?_⟩
 ·intro b hb
  show b<(s.heap.push _).objs.size
  rw [Heap.size_push]
  obtain ⟨o,ho,_⟩:=pl.isList
  have hp:=Heap.lt_size ho
  simp only [List.mem_cons,List.not_mem_nil,or_false] at hb
  rcases hb with rfl|rfl
  ·exact Nat.lt_succ_self _
  ·exact Nat.lt_succ_of_lt hp
 ·refine ⟨.int (minAt is),H,moved_kept I m (fun b o e=>Heap.get?_push_of_some _ e) (fun b hb=>?_) ⟨rfl,rfl,rfl⟩,?_,q⟩
  ·have e:b=s.heap.objs.size:=by simpa using hb
   exact Nat.le_of_eq e.symm
  ·obtain ⟨t,rfl⟩:=ints_vals rv hv
   refine ⟨t,?_⟩
   rw [hlen];rfl
theorem minL_ok {K:PySem.W.Frag}:CallD K minLM (rMinL K):=by
 intro π H μ xs d μ' vs Q R i hm k
 unfold minLM at hm
 split at hm
 ·obtain ⟨ys,h1,hm⟩:=Option.bind_eq_some_iff.mp hm
  obtain ⟨is,h2,hm⟩:=Option.bind_eq_some_iff.mp hm
  split at hm
  ·rename_i h0
   cases hm
   cases i with
   | cons i t=>
    cases t
    obtain ⟨p,ws,rfl,q,hd⟩:=lst_of R i h1
    rw [intsD_eq h2] at hd
    have:=ints_of' hd
    subst this
    exact ⟨p,is,rfl,q,h0,k π _ H .refl R (.int _)⟩
  ·cases hm
 ·cases hm
noncomputable def minA:MF:=fun ds μ=>match ds with
 | [x]=>minLM [x] μ
 | _=>minM ds μ
theorem minA_ok {K:PySem.W.Frag}{r2:List V->Hp->VK->Prop}(h2:CallD K minM r2):CallD K minA (fun xs H Q=>rMinL K xs H Q\/r2 xs H Q):=by
 intro π H μ xs d μ' vs Q R i hm k
 unfold minA at hm
 split at hm
 ·exact .inl (minL_ok π H μ _ d μ' vs Q R i hm k)
 ·exact .inr (h2 π H μ _ d μ' vs Q R i hm k)
end L3
namespace L3
open PySem L2
end L3
namespace L3
open PySem L2
end L3
namespace L3
open PySem L2
end L3
namespace L3
open PySem L2
end L3
namespace L3
open PySem L2
end L3
namespace L3
open PySem L2
structure Sig where
 fn:List (Str×Nat)
 con:List (Str×D)
 tab:List (Str×List (Key×D))
 no:List Str
 dIt:List Str
 dEq:List Str
 dMe:List Str
structure Cs where
 N:List Str
 ks:List (Str×NameKind)
noncomputable def idx (x:Str):List Str->Option Nat
 | []=>none
 | y::r=>if x=y then some 0 else (idx x r).map (·+1)
theorem idx_get {x:Str}:∀ {N:List Str}{i:Nat},idx x N=some i->N[i]? = some x
 | [],_,h=>by cases h
 | y::r,i,h=>by
  unfold idx at h
  split at h
  ·rename_i e;cases h;subst e;rfl
  ·obtain ⟨j,h1,h2⟩:=Option.map_eq_some_iff.mp h
   subst h2
   have:=idx_get h1
   simpa using this
noncomputable def glob (c:Cs)(x:Str):Bool:=decide (c.ks.lookup x=some .globalImplicit)&&!(x == ("__debug__":Str))
noncomputable def seen (c:Cs)(x:Str):Bool:=(decide (c.ks.lookup x=some .local)||decide (c.ks.lookup x=some .cell)||decide (c.ks.lookup x=some .free))&&!(x == ("__debug__":Str))&&!(x == ("__classdict__":Str))
noncomputable def owned (c:Cs)(x:Str):Bool:=decide (c.ks.lookup x=some .local)||decide (c.ks.lookup x=some .cell)
noncomputable def tyName (x:Str):Option String:=
 if x = "int" then some "int" else if x = "bool" then some "bool" else if x = "str" then some "str" else if x = "list" then some "list" else if x = "tuple" then some "tuple" else if x = "dict" then some "dict" else none
theorem tyName_ok {x:Str}{n:String}(h:tyName x=some n):bootBuiltins x=some (.type n)/\x ≠ "__name__":=by
 unfold tyName at h
 split at h
 ·rename_i e;subst e;cases h;exact ⟨PyProof.Rows.Boot.«int»,by decide⟩
 split at h
 ·rename_i e;subst e;cases h;exact ⟨PyProof.Rows.Boot.«bool»,by decide⟩
 split at h
 ·rename_i e;subst e;cases h;exact ⟨PyProof.Rows.Boot.«str»,by decide⟩
 split at h
 ·rename_i e;subst e;cases h;exact ⟨PyProof.Rows.Boot.«list»,by decide⟩
 split at h
 ·rename_i e;subst e;cases h;exact ⟨PyProof.Rows.Boot.«tuple»,by decide⟩
 split at h
 ·rename_i e;subst e;cases h;exact ⟨PyProof.Rows.Boot.«dict»,by decide⟩
 ·cases h
noncomputable def trN (S:Sig)(c:Cs)(x:Str):ME:=
 if seen c x=true then (match idx x c.N with|some i=>mVar i|none=>mBad)
 else if glob c x=true then (match S.con.lookup x with
  | some d=>mC d
  | none=>if S.no.contains x=true then (match tyName x with|some n=>mC (.ty n)|none=>mBad) else mBad)
 else mBad
noncomputable def trA (r:Expr->ME):List Expr->MA
 | []=>mNil
 | e::es=>mCons (r e) (trA r es)
noncomputable def trBo (op:BoolOp):List ME->ME
 | []=>mBad
 | [m]=>m
 | m::r=>match op with
  | .And=>mAndV m (trBo op r)
  | .Or=>mOrV m (trBo op r)
noncomputable def trBoT (op:BoolOp):List MT->MT
 | []=>mBadT
 | [m]=>m
 | m::r=>match op with
  | .And=>mAndT m (trBoT op r)
  | .Or=>mOrT m (trBoT op r)
noncomputable def trBin (op:Operator)(a b:ME):ME:=match op with
 | .Add=>mOp addD a b
 | .Sub=>mOp subD a b
 | .Mult=>mOp mulD a b
 | .FloorDiv=>mOp fdivD a b
 | .Mod=>mOp modD a b
 | .Pow=>mOp powD a b
 | _=>mBad
noncomputable def trCmp (op:CmpOp)(ns:Bool)(a b:ME):ME:=match op with
 | .Eq=>mOp (eqM false) a b
 | .NotEq=>mOp (eqM true) a b
 | .Lt=>mOp ltD a b
 | .LtE=>mOp leD a b
 | .Gt=>mOp gtD a b
 | .GtE=>mOp geD a b
 | .Is=>mOp (isM false) a b
 | .IsNot=>mOp (isM true) a b
 | _=>mBad
noncomputable def trOp (r:Expr->ME):Option Expr->MO
 | none=>mNoPart
 | some e=>mPart (r e)
noncomputable def lenA:MF:=lenM
noncomputable def bltB (x:Str):Option MF:=
 if x = "len" then some lenA
 else if x = "isinstance" then some isInst
 else if x = "list" then some listM
 else if x = "all" then some allM
 else if x = "sorted" then some sortedA
 else if x = "sum" then some sumM
 else if x = "min" then some minA else if x = "max" then some maxA
 else none
theorem bltB_ok {X:Cx}{x:Str}{f:MF}(hcalm:X.calm=true)(hun:X.A.units+64<cLine)(h:bltB x=some f):∃ v r,bootBuiltins x=some v/\((∃ id,v=.builtin id)\/∃ T,v=.type T)/\CallR X v r/\CallD X.K f r/\x ≠ "__name__":=by
 unfold bltB at h
 split at h
 ·rename_i e;subst e;cases h;exact ⟨_,_,PyProof.Rows.Boot.«len»,.inl ⟨_,rfl⟩,call_lenM,lenM_ok,by decide⟩
 split at h
 ·rename_i e;subst e;cases h;exact ⟨_,_,PyProof.Rows.Boot.«isinstance»,.inl ⟨_,rfl⟩,call_isInst,isInst_ok,by decide⟩
 split at h
 ·rename_i e;subst e;cases h;exact ⟨_,_,PyProof.Rows.Boot.«list»,.inr ⟨_,rfl⟩,call_list_of,listM_ok,by decide⟩
 split at h
 ·rename_i e;subst e;cases h;exact ⟨_,_,PyProof.Rows.Boot.«all»,.inl ⟨_,rfl⟩,call_allA hcalm,allA_ok rfl,by decide⟩
 split at h
 ·rename_i e;subst e;cases h;exact ⟨_,_,PyProof.Rows.Boot.«sorted»,.inl ⟨_,rfl⟩,call_sortI.or call_sortTx,sortedA_ok,by decide⟩
 split at h
 ·rename_i e;subst e;cases h;exact ⟨_,_,PyProof.Rows.Boot.«sum»,.inl ⟨_,rfl⟩,call_sumA hcalm,sumM_ok,by decide⟩
 split at h
 ·rename_i e;subst e;cases h;exact ⟨_,_,PyProof.Rows.Boot.«min»,.inl ⟨_,rfl⟩,(call_minL hcalm).or (call_min2 hcalm),minA_ok minM_ok,by decide⟩
 split at h
 ·rename_i e;subst e;cases h;exact ⟨_,_,PyProof.Rows.Boot.«max»,.inl ⟨_,rfl⟩,(call_maxL hcalm).or (call_max2 hcalm),maxA_ok maxM_ok,by decide⟩
 ·cases h
noncomputable def bltM (x:Str):Option MF:=
 bltB x
theorem bltM_ok {X:Cx}{x:Str}{f:MF}(hcalm:X.calm=true)(hun:X.A.units+64<cLine)(h:bltM x=some f):∃ v r,bootBuiltins x=some v/\((∃ id,v=.builtin id)\/∃ T,v=.type T)/\CallR X v r/\CallD X.K f r/\x ≠ "__name__":=by
 unfold bltM at h
 exact bltB_ok hcalm hun h
noncomputable def methM (m:Str)(n:Nat):Option (D->List D->Hm->Option (D×Hm)):=
 if n=1 then (if m = "append" then some appendM
  else none)
 else none
noncomputable def trCall (S:Sig)(F:Str->MF)(r:Expr->ME)(c:Cs)(f:Expr)(args:List Expr)(cpos:Pos):ME:=match f with
 | .Name x _=>if glob c x&&args.all noStar then (match S.fn.lookup x with
   | some n=>if args.length=n then mCall (F x) (trA r args) else mBad
   | none=>if S.no.contains x&&!args.isEmpty then (match bltM x with|some g=>mCall g (trA r args)|none=>mBad) else mBad)
  else mBad
 | .Attribute o m apos=>if noSup o&&(apos.endLine == cpos.line)&&args.all noStar then (
   match methM m args.length with
   | some g=>mMeth g (r o) (trA r args)
   | none=>
    mBad)
  else mBad
 | _=>mBad
noncomputable def o1:List Expr->Option Expr
 | [e]=>some e
 | _=>none
noncomputable def trCall2 (S:Sig)(F:Str->MF)(r:Expr->ME)(c:Cs)(f:Expr)(args:List Expr)(cpos:Pos):ME:=
 trCall S F r c f args cpos
noncomputable def trCall3 (S:Sig)(F:Str->MF)(r:Expr->ME)(c:Cs)(f:Expr)(args:List Expr)(cpos:Pos):ME:=
 trCall2 S F r c f args cpos
noncomputable def compB (c:Cs)(scope:Scope)(xs:List Str):Bool:=
 (scope.names.all fun y=>decide (y.2≠.cell))&&decide (scope.kind=.function)&&(scope.names.all fun y=>decide (y.2≠.local)||decide (scope.names.lookup y.1=some .local)) &&
 (xs.all fun x=>decide (scope.names.lookup x=some .local))&&decide xs.Nodup&&(scope.names.all fun y=>decide (y.2≠.free)||decide (c.ks.lookup y.1=some .cell)||decide (c.ks.lookup y.1=some .free)) &&
 (scope.names.all fun y=>decide (y.2≠.local)||!(hid xs c.N).contains y.1)&&decide (hid xs c.N).Nodup&&(c.N.all fun y=>!xs.contains y||decide (scope.names.lookup (hidName y)=none))
noncomputable def compC (c:Cs)(scope:Scope)(xs:List Str):Cs:=
 ⟨hid xs c.N++xs,scope.names.map fun (n,k)=>if (k == NameKind.free&&c.ks.lookup n == some .cell) then (n,NameKind.cell) else (n,k)⟩
noncomputable def trIfs (r:Expr->MT):List Expr->MT
 | []=>mTrue
 | [t]=>r t
 | _=>mBadT
noncomputable def rngOf (S:Sig)(c:Cs):Expr->Option (List Expr)
 | .Call (.Name x _) args [] _=>if x = "range" then (if glob c x&&S.no.contains x&&args.all noStar then some args else none) else none
 | _=>none
noncomputable def trI (S:Sig)(r:Expr->ME)(c:Cs)(e:Expr):MI:=match rngOf S c e with
 | some [a]=>iRng1D (trA r [a])
 | some _=>iBad
 | none=>iSeqD (r e)
noncomputable def enumOf (S:Sig)(c:Cs):Expr->Option Expr
 | .Call (.Name x _) [a] [] _=>if x = "enumerate" then (if glob c x&&S.no.contains x&&noStar a then some a else none) else none
 | _=>none
noncomputable def trIT0 (S:Sig)(r:Expr->ME)(c:Cs)(e:Expr):MI:=match enumOf S c e with
 | some a=>iEnumD (trA r [a])
 | none=>trI S r c e
noncomputable def trIT (S:Sig)(r:Expr->ME)(c:Cs)(e:Expr):MI:=trIT0 S r c e
noncomputable def tgNames:Expr->Option (List Str)
 | .Name x _=>some [x]
 | .Tuple es _ _=>es.mapM fun e=>match e with|.Name x _=>some x|_=>none
 | _=>none
noncomputable def tgBd:Expr->Nat->BD
 | .Tuple ..,n=>bdTup n
 | _,_=>bdOne
noncomputable def trIG (S:Sig)(r:Expr->ME)(c:Cs)(tg e:Expr):MI:=match tg with
 | .Tuple ..=>trIT S r c e
 | _=>trI S r c e
noncomputable def trCompI (mi:MI)(rE:Cs->Expr->ME)(rT:Cs->Expr->MT)(c:Cs)(elt tg iter:Expr)(ifs:List Expr)(scope:Scope):ME:=match tgNames tg with
 | some xs=>if compB c scope xs&&noSet iter then mCompG (tgBd tg xs.length) mi (trIfs (rT (compC c scope xs)) ifs) (rE (compC c scope xs) elt) else mBad
 | none=>mBad
noncomputable def trComp (S:Sig)(rE:Cs->Expr->ME)(rT:Cs->Expr->MT)(c:Cs)(elt tg iter:Expr)(ifs:List Expr)(scope:Scope):ME:=
 trCompI (trIG S (rE c) c tg iter) rE rT c elt tg iter ifs scope
noncomputable def trK:Const->ME
 | .int i=>mC (.int i)
 | .bool b=>mC (.bl b)
 | .str s=>mC (.str s)
 | .none=>mC .non
 | _=>mBad
noncomputable def trU (m:ME):UnaryOp->ME
 | .USub=>mNeg m
 | .Not=>mNotV m
 | _=>mBad
noncomputable def trCm (S:Sig)(r:Expr->ME)(a:Expr):List CmpOp->List Expr->ME
 | [op],[b]=>trCmp op (noSet b) (r a) (r b)
 | _,_=>mBad
noncomputable def trDc (r:Expr->ME):List (Option Expr)->List Expr->ME
 | _,_=>mBad
noncomputable def trSb (S:Sig)(r:Expr->ME)(c:Cs)(a b:Expr):ME:=match b with
 | .Slice lo hi none _=>mSlice (r a) (trOp r lo) (trOp r hi)
 | .Slice lo hi (some st) _=>mSliceS (r a) (trOp r lo) (trOp r hi) (trOp r (some st))
 | b=>if noSlice b then mOp itD (r a) (r b) else mBad
noncomputable def trTp (r:Expr->ME)(es:List Expr):ME:=if es.all noStar then mTup (trA r es) else mBad
noncomputable def trLs (r:Expr->ME)(es:List Expr):ME:=if es.all noStar then mLst (trA r es) else mBad
noncomputable def trCl (S:Sig)(F:Str->MF)(r:Expr->ME)(c:Cs)(f:Expr)(args:List Expr)(cpos:Pos):List Keyword->ME
 | []=>trCall3 S F r c f args cpos
 | _=>mBad
noncomputable def trLc (S:Sig)(rE:Cs->Expr->ME)(rT:Cs->Expr->MT)(c:Cs)(elt:Expr)(scope:Scope):List Comprehension->ME
 | [⟨tg,iter,ifs,0⟩]=>trComp S rE rT c elt tg iter ifs scope
 | _=>mBad
noncomputable def stepE (S:Sig)(F:Str->MF)(rE:Cs->Expr->ME)(rT:Cs->Expr->MT)(c:Cs):Expr->ME
 | .Name x _=>trN S c x
 | .Constant v _ _=>trK v
 | .BinOp a op b _=>trBin op (rE c a) (rE c b)
 | .UnaryOp op a _=>trU (rE c a) op
 | .Compare a ops bs _=>trCm S (rE c) a ops bs
 | .BoolOp op vs _=>trBo op (vs.map (rE c))
 | .IfExp t a b _=>mIfE (rT c t) (rE c a) (rE c b)
 | .Tuple es _ _=>trTp (rE c) es
 | .List es _=>trLs (rE c) es
 | .Dict keys values _=>trDc (rE c) keys values
 | .Subscript a b _=>trSb S (rE c) c a b
 | .Call f args kws cpos=>trCl S F (rE c) c f args cpos kws
 | .ListComp elt gs scope _=>trLc S rE rT c elt scope gs
 | _=>mBad
noncomputable def trTr (r:Expr->ME)(e:Expr):MT:=if plainT e then mTru (r e) else mBadT
noncomputable def trCmT (S:Sig)(r:Expr->ME)(a:Expr)(ops:List CmpOp)(bs:List Expr)(p:Pos):MT:=match ops,bs with
 | [op],[b]=>mTest (trCmp op (noSet b) (r a) (r b))
 | ops,bs=>trTr r (.Compare a ops bs p)
noncomputable def trUT (r:Expr->ME)(t:MT)(a:Expr)(p:Pos):UnaryOp->MT
 | .Not=>t
 | op=>trTr r (.UnaryOp op a p)
noncomputable def stepT (S:Sig)(rE:Cs->Expr->ME)(rT:Cs->Expr->MT)(c:Cs):Expr->MT
 | .BoolOp op vs _=>trBoT op (vs.map (rT c))
 | .UnaryOp op a p=>trUT (rE c) (mNotT (rT c a)) a p op
 | .Compare a ops bs p=>trCmT S (rE c) a ops bs p
 | e=>trTr (rE c) e
noncomputable def tr (S:Sig)(F:Str->MF):Nat->(Cs->Expr->ME)×(Cs->Expr->MT)
 | 0=>(fun _ _=>mBad,fun _ _=>mBadT)
 | n+1=>(stepE S F (tr S F n).1 (tr S F n).2,stepT S (tr S F n).1 (tr S F n).2)
structure Okx (S:Sig)(F:Str->MF)(k:Nat)(c:Cs)(X:Cx):Prop where
 N:X.N=c.N
 nd:X.N.Nodup
 ks:X.env.scope.names=c.ks
 kind:X.env.scope.kind=.function
 calm:X.calm=true
 room:Room k X.A
 never:PassesOwn (model X.prog X.w) X.A X.env X.xe
 fn:∀ x n,S.fn.lookup x=some n->∃ (f:Addr)(fd:FuncData)(ps:List Str),FnOk X.prog X.w X.K X.mg X.base CX0 k f fd ps (spM X.K n (F x))/\X.mg x=some (.ref f)/\PySem.W.keepIn X.K (.ref f)=true/\Binds X.K fd ps []
 con:∀ x d,S.con.lookup x=some d->∃ v u,X.mg x=some u/\RelV v u/\∀ π n H,IsD X.K π n H v d
 tab:∀ x kvs,S.tab.lookup x=some kvs->TabOk X x kvs
 no:∀ x,S.no.contains x=true->X.mg x=none
section
variable {S:Sig}{F:Str->MF}{k:Nat}{c:Cs}{X:Cx}
theorem Okx.gl (O:Okx S F k c X){x:Str}(h:glob c x=true):Gl X x/\(x == ("__debug__":Str))=false:=by
 unfold glob at h
 rw [Bool.and_eq_true] at h
 refine ⟨?_,by simpa using h.2⟩
 show X.env.scope.names.lookup x=_
 rw [O.ks]
 exact of_decide_eq_true h.1
theorem Okx.vis (O:Okx S F k c X){x:Str}(h:seen c x=true):Vis X.env.scope x/\(x == ("__debug__":Str))=false/\(x == ("__classdict__":Str))=false:=by
 unfold seen at h
 rw [Bool.and_eq_true,Bool.and_eq_true,Bool.or_eq_true,Bool.or_eq_true] at h
 obtain ⟨⟨h1,h2⟩,h3⟩:=h
 refine ⟨?_,by simpa using h2,by simpa using h3⟩
 unfold Vis
 rw [O.ks]
 rcases h1 with (h1|h1)|h1
 ·exact .inl (of_decide_eq_true h1)
 ·exact .inr (.inl (of_decide_eq_true h1))
 ·exact .inr (.inr (of_decide_eq_true h1))
theorem trN_ok (O:Okx S F k c X)(x:Str)(pos:Pos):QE X (.Name x pos) (trN S c x):=by
 unfold trN
 split
 ·rename_i h
  obtain ⟨h1,h2,h3⟩:=O.vis h
  split
  ·rename_i i hi
   exact e_var i (by rw [O.N];exact idx_get hi) h1 h2 h3
  ·exact e_bad
 split
 ·rename_i h
  obtain ⟨h1,h2⟩:=O.gl h
  split
  ·rename_i d hd
   obtain ⟨v,u,m,r,i⟩:=O.con x d hd
   exact ⟨pm_const (pe_glob h1 m r h2) i⟩
  ·split
   ·rename_i hn
    split
    ·rename_i n ht
     obtain ⟨b1,b2⟩:=tyName_ok ht
     exact e_ty (O.no x hn) b1 h1 b2 h2
    ·exact e_bad
   ·exact e_bad
 ·exact e_bad
theorem trA_ok {r:Expr->ME}(hr:∀ e,QE X e (r e)):∀ (es:List Expr),es.all noStar=true->QA X es (trA r es) es.length
 | [],_=>a_nil
 | e::es,h=>by
  rw [List.all_cons,Bool.and_eq_true] at h
  exact a_cons (hr e) (trA_ok hr es h.2) h.1
theorem trBo_ok {r:Expr->ME}(hr:∀ e,QE X e (r e))(op:BoolOp)(pos:Pos):∀ (vs:List Expr),QE X (.BoolOp op vs pos) (trBo op (vs.map r))
 | []=>e_bad
 | [e]=>e_one (hr e)
 | e::e2::es=>by
  have ih:=trBo_ok hr op pos (e2::es)
  cases op with
  | And=>exact e_and (hr e) ih
  | Or=>exact e_or (hr e) ih
theorem trBoT_ok {r:Expr->MT}(hr:∀ e,QT X e (r e))(op:BoolOp)(pos:Pos):∀ (vs:List Expr),QW X (.BoolOp op vs pos) (trBoT op (vs.map r))
 | []=>w_bad
 | [e]=>by
  cases op with
  | And=>exact w_and1 (hr e)
  | Or=>exact w_or1 (hr e)
 | e::e2::es=>by
  have ih:=trBoT_ok hr op pos (e2::es)
  cases op with
  | And=>exact w_and (hr e) ih
  | Or=>exact w_or (hr e) ih
theorem trBin_ok {a b:Expr}{ma mb:ME}(ha:QE X a ma)(hb:QE X b mb)(op:Operator)(pos:Pos):QE X (.BinOp a op b pos) (trBin op ma mb):=by
 cases op with
 | Add=>exact e_add ha hb
 | Sub=>exact e_sub ha hb
 | Mult=>exact e_mul ha hb
 | FloorDiv=>exact e_fdiv ha hb
 | Mod=>exact e_mod ha hb
 | Pow=>exact e_pow ha hb
 | _=>exact e_bad
theorem trCmp_ok (O:Okx S F k c X){a b:Expr}{ma mb:ME}(ha:QE X a ma)(hb:QE X b mb)(op:CmpOp)(pos:Pos):QE X (.Compare a [op] [b] pos) (trCmp op (noSet b) ma mb):=by
 cases op with
 | Eq=>exact e_eq O.room ha hb
 | NotEq=>exact e_ne O.room ha hb
 | Lt=>exact e_lt ha hb
 | LtE=>exact e_le ha hb
 | Gt=>exact e_gt ha hb
 | GtE=>exact e_ge ha hb
 | Is=>exact e_isM ha hb
 | IsNot=>exact e_isnotM ha hb
 | _=>exact e_bad
theorem t_badM {e:Expr}:QT X e (mTest mBad):=⟨fun pins s σ H Q I h=>by
 obtain ⟨π,ρ,μ,d,μ',R,E,hm,k⟩:=h
 cases hm⟩
theorem trCmpT_ok (O:Okx S F k c X){a b:Expr}{ma mb:ME}(ha:QE X a ma)(hb:QE X b mb)(op:CmpOp)(pos:Pos):QT X (.Compare a [op] [b] pos) (mTest (trCmp op (noSet b) ma mb)):=by
 cases op with
 | Eq=>exact t_eq O.room ha hb
 | NotEq=>exact t_ne O.room ha hb
 | Lt=>exact t_lt ha hb
 | LtE=>exact t_le ha hb
 | Gt=>exact t_gt ha hb
 | GtE=>exact t_ge ha hb
 | Is=>exact t_isM ha hb
 | IsNot=>exact t_isnotM ha hb
 | _=>exact t_badM
theorem trOp_ok {r:Expr->ME}(hr:∀ e,QE X e (r e)):∀ o:Option Expr,QO X o (trOp r o)
 | none=>o_none
 | some e=>o_some (hr e)
theorem trCall_ok (O:Okx S F k c X){r:Expr->ME}(hr:∀ e,QE X e (r e))(f:Expr)(args:List Expr)(cpos:Pos):QE X (.Call f args [] cpos) (trCall S F r c f args cpos):=by
 unfold trCall
 split
 ·rename_i x p
  split
  ·rename_i hg
   rw [Bool.and_eq_true] at hg
   obtain ⟨g1,g2⟩:=O.gl hg.1
   have ha:=trA_ok hr args hg.2
   split
   ·rename_i n hn
    split
    ·rename_i hl
     obtain ⟨fa,fd,ps,FO,hm,hk,hb⟩:=O.fn x n hn
     subst hl
     cases args with
     | nil=>exact e_call0 FO O.room hm hk hb g1 g2
     | cons e es=>exact e_call FO O.room hm hk hb ha g1 g2
    ·exact e_bad
   ·split
    ·rename_i hno
     rw [Bool.and_eq_true] at hno
     split
     ·rename_i g hb
      obtain ⟨v,rr,b1,b2,b3,b4,b5⟩:=bltM_ok (X:=X) O.calm O.room.units hb
      cases args with
      | nil=>exact absurd hno.2 (by simp)
      | cons e es=>
       rcases b2 with ⟨id,rfl⟩|⟨T,rfl⟩
       ·exact e_callB b3 b4 (O.no x hno.1) b1 ha g1 b5 g2
       ·exact e_callT b3 b4 (O.no x hno.1) b1 ha g1 b5 g2
     ·exact e_bad
    ·exact e_bad
  ·exact e_bad
 ·rename_i o m apos
  split
  ·rename_i hg
   rw [Bool.and_eq_true,Bool.and_eq_true] at hg
   obtain ⟨⟨h1,h2⟩,h3⟩:=hg
   have ha:=trA_ok hr args h3
   split
   ·rename_i g hm
    unfold methM at hm
    split at hm
    ·rename_i hl
     cases args with
     | nil=>cases hl
     | cons e es=>
      have hn:(e::es).length<30:=by rw [hl];decide
      split at hm
      ·rename_i e1;subst e1;cases hm
       exact e_meth PySem.F.slot_list_append PySem.F.type_list_append mt_append append_ok (hr o) ha h1 h2 hn
      ·cases hm
    ·cases hm
   ·skip
    ·exact e_bad
  ·exact e_bad
 ·exact e_bad
theorem trCall2_ok (O:Okx S F k c X){r:Expr->ME}(hr:∀ e,QE X e (r e))(f:Expr)(args:List Expr)(cpos:Pos):QE X (.Call f args [] cpos) (trCall2 S F r c f args cpos):=by
 unfold trCall2
 exact trCall_ok O hr f args cpos
theorem compB_ok (O:Okx S F k c X){scope:Scope}{xs:List Str}(h:compB c scope xs=true):CompSt X.env.scope X.N scope xs/\xs.Nodup:=by
 unfold compB at h
 rw [Bool.and_eq_true,Bool.and_eq_true] at h
 obtain ⟨⟨h,h8⟩,h9⟩:=h
 have h8:=of_decide_eq_true h8
 have h9':∀ y∈c.N,xs.contains y=true->scope.names.lookup (hidName y)=none:=fun y hy hc=>by
  have:=List.all_eq_true.mp h9 y hy
  rw [hc] at this
  simpa using this
 simp only [Bool.and_eq_true,List.all_eq_true,decide_eq_true_eq,Bool.or_eq_true,Bool.not_eq_true',List.contains_eq_mem,decide_eq_false_iff_not] at h
 obtain ⟨⟨⟨⟨⟨⟨h1,h2⟩,h3⟩,h4⟩,h7⟩,h5⟩,h6⟩:=h
 refine ⟨⟨h1,h2,fun y hy hl=>(h3 y hy).resolve_left (fun z=>z hl),h4,fun y hy hf=>?_,fun y hy hl=>?_,O.nd,by rw [O.N];exact h8,by rw [O.N];exact h9'⟩,h7⟩
 ·rw [O.ks]
  rcases h5 y hy with (z|z)|z
  ·exact absurd hf z
  ·exact .inl z
  ·exact .inr z
 ·rw [O.N]
  have:=(h6 y hy).resolve_left (fun z=>z hl)
  exact this
theorem nodup_ext {N xs:List Str}(h:N.Nodup)(h2:xs.Nodup)(h3:∀ x∈xs,x∉N):(N++xs).Nodup:=by
 rw [List.nodup_append]
 exact ⟨h,h2,fun a ha b hb e=>by subst e;exact h3 _ hb ha⟩
theorem Okx.comp (O:Okx S F k c X){scope:Scope}{xs:List Str}(h:compB c scope xs=true){cl:List (Str×Addr)}{C:Addr}{s₀:Shared}{H₀:Hp}{fp:List Addr}:Okx S F k (compC c scope xs) (compCx X scope cl C (hid xs X.N++xs) s₀ H₀ fp):=by
 obtain ⟨St,hnd⟩:=compB_ok O h
 refine ⟨show hid xs X.N++xs=hid xs c.N++xs by rw [O.N],?_,?_,?_,O.calm,O.room,PassesOwn.never,O.fn,O.con,fun y kvs q=>⟨(O.tab y kvs q).ex⟩,O.no⟩
 ·show (hid xs X.N++xs).Nodup
  exact nodup_ext St.hnd hnd fun x hx=>St.own (x,.local) (PySem.mem_of_lookup (St.here x hx)) rfl
 ·show (relabel scope X.env).names=(compC c scope xs).ks
  unfold relabel compC
  dsimp only
  refine List.map_congr_left fun y _=>?_
  obtain ⟨n,kk⟩:=y
  dsimp only
  have:(X.env.scope.kind == ScopeKind.function)=true:=by rw [O.kind];rfl
  rw [this,Bool.and_true]
  show (if (kk == NameKind.free&&X.env.scope.names.lookup n == some NameKind.cell)=true then _ else _)=_
  rw [O.ks]
 ·show (relabel scope X.env).kind=.function
  exact St.kind
theorem trIfs_ok {r:Expr->MT}(hr:∀ e,QT X e (r e)):∀ es:List Expr,QI X es (trIfs r es)
 | []=>i_nil
 | [t]=>i_one (hr t)
 | a::b::es=>⟨fun pins s σ H Q I h=>by
   obtain ⟨π,ρ,μ,d,μ',R,E,hm,k⟩:=h
   cases hm⟩
theorem rngOf_ok (O:Okx S F k c X){e:Expr}{args:List Expr}(h:rngOf S c e=some args):∃ p pos,e=.Call (.Name "range" p) args [] pos/\Gl X "range"/\X.mg "range" = none/\args.all noStar=true:=by
 unfold rngOf at h
 split at h
 ·split at h
  ·rename_i e1
   subst e1
   split at h
   ·rename_i hg
    cases h
    rw [Bool.and_eq_true,Bool.and_eq_true] at hg
    exact ⟨_,_,rfl,(O.gl hg.1.1).1,O.no _ hg.1.2,hg.2⟩
   ·cases h
  ·cases h
 ·cases h
theorem trI_ok (O:Okx S F k c X){r:Expr->ME}(hr:∀ e,QE X e (r e))(e:Expr):QJ X e (trI S r c e):=by
 unfold trI
 split
 ·rename_i a h
  obtain ⟨p,pos,rfl,h1,h2,h3⟩:=rngOf_ok O h
  exact j_range1 h1 h2 (trA_ok hr [a] h3)
 ·exact j_bad
 ·exact j_seq (hr e)
theorem enumOf_ok (O:Okx S F k c X){e a:Expr}(h:enumOf S c e=some a):∃ p pos,e=.Call (.Name "enumerate" p) [a] [] pos/\Gl X "enumerate"/\X.mg "enumerate" = none/\noStar a=true:=by
 unfold enumOf at h
 split at h
 ·split at h
  ·rename_i e1
   subst e1
   split at h
   ·rename_i hg
    cases h
    rw [Bool.and_eq_true,Bool.and_eq_true] at hg
    exact ⟨_,_,rfl,(O.gl hg.1.1).1,O.no _ hg.1.2,hg.2⟩
   ·cases h
  ·cases h
 ·cases h
theorem trIT0_ok (O:Okx S F k c X){r:Expr->ME}(hr:∀ e,QE X e (r e))(e:Expr):QJT X e (trIT0 S r c e):=by
 unfold trIT0
 split
 ·rename_i a h
  obtain ⟨p,pos,rfl,h1,h2,h3⟩:=enumOf_ok O h
  exact j_enum h1 h2 (trA_ok hr [a] (by rw [List.all_cons,h3];rfl))
 ·exact (trI_ok O hr e).t
theorem trIT_ok (O:Okx S F k c X){r:Expr->ME}(hr:∀ e,QE X e (r e))(e:Expr):QJT X e (trIT S r c e):=by
 unfold trIT
 exact trIT0_ok O hr e
theorem trIG_ok (O:Okx S F k c X){r:Expr->ME}(hr:∀ e,QE X e (r e))(tg e:Expr):PI X tg e (tMI X.K (trIG S r c tg e)):=by
 unfold trIG
 split
 ·exact (trIT_ok O hr e).h _ _ _
 ·exact (trI_ok O hr e).h _
theorem folded_of {iter:Expr}{env:Env}(h:noSet iter=true):∀ x,foldedSetIterable iter env x=pure x:=by
 intro z
 cases iter<;>first|rfl|cases h
end
theorem names_gs {X:Cx}(hN:X.N.Nodup):∀ (es:List Expr)(xs:List Str)(n:Nat),(es.mapM fun e=>match e with|.Name x _=>some x|_=>none)=some xs->(∀ j x,xs[j]? = some x->X.N[n+j]? = some x/\X.env.scope.names.lookup x=some .local)->QGs X es (List.range' n xs.length)
 | [],xs,n,h,hx=>by
  cases h
  exact gs_nil
 | e::es,xs,n,h,hx=>by
  rw [List.mapM_cons] at h
  obtain ⟨x,h1,h⟩:=Option.bind_eq_some_iff.mp h
  obtain ⟨ys,h2,h⟩:=Option.bind_eq_some_iff.mp h
  cases h
  cases e with
  | Name y p=>
   cases h1
   rw [List.length_cons,List.range'_succ]
   have h0:=hx 0 x rfl
   refine gs_cons n hN (names_gs hN es ys (n+1) h2 fun j z hz=>?_) (by simpa using h0.1) (.inl h0.2) (.inr h0.2)
   have:=hx (j+1) z (by simpa using hz)
   rw [show n+1+j=n+(j+1) by omega]
   exact this
  | _=>cases h1
theorem tg_ok {S:Sig}{F:Str->MF}{k:Nat}{c:Cs}{X:Cx}(O:Okx S F k c X){scope:Scope}{tg:Expr}{xs:List Str}(hx:tgNames tg=some xs)(h:compB c scope xs=true)(cl:List (Str×Addr))(C:Addr)(s₀:Shared)(H₀:Hp)(fp:List Addr) :
  PG (compCx X scope cl C (hid xs X.N++xs) s₀ H₀ fp) tg (tMG X.K (gB X.N.length (tgBd tg xs.length)))/\∀ d μ z,tgBd tg xs.length d μ=some z->z.length=xs.length:=by
 obtain ⟨St,hnd⟩:=compB_ok O h
 have hN:(hid xs X.N++xs).Nodup:=nodup_ext St.hnd hnd fun x hx=>St.own (x,.local) (PySem.mem_of_lookup (St.here x hx)) rfl
 have hloc:∀ x∈xs,(relabel scope X.env).names.lookup x=some .local:=fun x hx=>lookup_relabel_local (St.here x hx)
 unfold tgNames at hx
 split at hx
 ·rename_i x p
  cases hx
  refine ⟨pgb_name (X:=compCx X scope cl C (hid [x] X.N++[x]) s₀ H₀ fp) (by show (hid [x] X.N++[x]).length=_;rw [List.length_append,hid_len];rfl) (pmg_name (X:=compCx X scope cl C (hid [x] X.N++[x]) s₀ H₀ fp) hN (by show (hid [x] X.N++[x])[X.N.length]? = _;rw [<- hid_len [x] X.N];simp) (.inl (hloc x (by simp))) (.inr (hloc x (by simp)))),fun d μ z hz=>?_⟩
  cases hz
  rfl
 ·rename_i es kk pt
  refine ⟨pgb_tup (X:=compCx X scope cl C (hid xs X.N++xs) s₀ H₀ fp) (by show (hid xs X.N++xs).length=_;rw [List.length_append,hid_len]) (g_tup (X:=compCx X scope cl C (hid xs X.N++xs) s₀ H₀ fp) (names_gs (X:=compCx X scope cl C (hid xs X.N++xs) s₀ H₀ fp) hN es xs X.N.length hx fun j x hj=>⟨?_,hloc x (List.mem_of_getElem? hj)⟩) O.calm).h,fun d μ z hz=>?_⟩
  ·show (hid xs X.N++xs)[X.N.length+j]? = some x
   rw [List.getElem?_append_right (by rw [hid_len];omega),hid_len,show X.N.length+j - X.N.length=j by omega]
   exact hj
  ·obtain ⟨ys,h1,h2⟩:=Option.bind_eq_some_iff.mp hz
   split at h2
   ·rename_i hl
    cases h2
    rw [List.length_map];exact hl
   ·cases h2
 ·cases hx
theorem trCall3_ok (O:Okx S F k c X){r:Expr->ME}(hr:∀ e,QE X e (r e))(f:Expr)(args:List Expr)(cpos:Pos):QE X (.Call f args [] cpos) (trCall3 S F r c f args cpos):=by
 unfold trCall3
 exact trCall2_ok O hr _ _ _
theorem trCompI_ok {S:Sig}{F:Str->MF}{k:Nat}{rE:Cs->Expr->ME}{rT:Cs->Expr->MT}(hE:∀ c X,Okx S F k c X->∀ e,QE X e (rE c e))(hT:∀ c X,Okx S F k c X->∀ e,QT X e (rT c e))(c:Cs)(X:Cx)(O:Okx S F k c X)
  (elt tg iter:Expr)(ifs:List Expr)(scope:Scope)(pos:Pos){mi:MI}(hi:PI X tg iter (tMI X.K mi)):QE X (.ListComp elt [⟨tg,iter,ifs,0⟩] scope pos) (trCompI mi rE rT c elt tg iter ifs scope):=by
 unfold trCompI
 split
 ·rename_i xs hx
  split
  ·rename_i h
   rw [Bool.and_eq_true] at h
   refine ⟨fun pins s σ H Q I q=>?_⟩
   exact pm_compI ((compB_ok O h.1).1.ok I.ok) O.calm hi (fun d μ z=>(tg_ok O hx h.1 [] 0 s H []).2 d μ z) (fun C s₀ H₀ fp=>(tg_ok O hx h.1 _ C s₀ H₀ fp).1) (fun C s₀ H₀ fp=>(trIfs_ok (hT _ _ (O.comp h.1)) _).h) (fun C s₀ H₀ fp=>(hE _ _ (O.comp h.1) _).h) (folded_of h.2) pins s σ H Q I q
  ·exact e_bad
 ·exact e_bad
theorem trComp_ok {S:Sig}{F:Str->MF}{k:Nat}{rE:Cs->Expr->ME}{rT:Cs->Expr->MT}(hE:∀ c X,Okx S F k c X->∀ e,QE X e (rE c e))(hT:∀ c X,Okx S F k c X->∀ e,QT X e (rT c e))(c:Cs)(X:Cx)(O:Okx S F k c X)
  (elt tg iter:Expr)(ifs:List Expr)(scope:Scope)(pos:Pos):QE X (.ListComp elt [⟨tg,iter,ifs,0⟩] scope pos) (trComp S rE rT c elt tg iter ifs scope):=by
 unfold trComp
 exact trCompI_ok hE hT c X O elt tg iter ifs scope pos (trIG_ok O (hE c X O) tg iter)
section
variable {S:Sig}{F:Str->MF}{k:Nat}{c:Cs}{X:Cx}{r:Expr->ME}
theorem trK_ok (v:Const)(n:Nat)(p:Pos):QE X (.Constant v n p) (trK v):=by
 cases v<;>first|exact e_int|exact e_bl|exact e_str|exact e_non|exact e_bad
theorem trU_ok (hr:∀ e,QE X e (r e))(op:UnaryOp)(a:Expr)(p:Pos):QE X (.UnaryOp op a p) (trU (r a) op):=by
 cases op<;>first|exact e_neg (hr _)|exact e_not (hr _)|exact e_bad
theorem trCm_ok (O:Okx S F k c X)(hr:∀ e,QE X e (r e))(a:Expr)(ops:List CmpOp)(bs:List Expr)(p:Pos):QE X (.Compare a ops bs p) (trCm S r a ops bs):=by
 unfold trCm
 split
 ·exact trCmp_ok O (hr _) (hr _) _ _
 ·exact e_bad
theorem trDc_ok (O:Okx S F k c X)(hr:∀ e,QE X e (r e))(ks:List (Option Expr))(vs:List Expr)(p:Pos):QE X (.Dict ks vs p) (trDc r ks vs):=by
 unfold trDc
 try split
 ·exact e_bad
theorem trSb_ok (O:Okx S F k c X)(hr:∀ e,QE X e (r e))(a b:Expr)(p:Pos):QE X (.Subscript a b p) (trSb S r c a b):=by
 unfold trSb
 split
 ·exact e_slice (hr _) (trOp_ok hr _) (trOp_ok hr _)
 ·exact e_sliceS (hr _) (trOp_ok hr _) (trOp_ok hr _) (trOp_ok hr _)
 ·split
  ·rename_i h
   ·exact e_item O.room (hr _) (hr _) h
  ·exact e_bad
theorem trTr_ok (hr:∀ e,QE X e (r e))(e:Expr):QT X e (trTr r e):=by
 unfold trTr
 split
 ·rename_i h;exact t_tru (hr _) h
 ·exact t_bad
theorem trCmT_ok (O:Okx S F k c X)(hr:∀ e,QE X e (r e))(a:Expr)(ops:List CmpOp)(bs:List Expr)(p:Pos):QT X (.Compare a ops bs p) (trCmT S r a ops bs p):=by
 unfold trCmT
 split
 ·exact trCmpT_ok O (hr _) (hr _) _ _
 ·exact trTr_ok hr _
theorem trTp_ok (hr:∀ e,QE X e (r e))(es:List Expr)(n:Nat)(p:Pos):QE X (.Tuple es n p) (trTp r es):=by
 unfold trTp
 split
 ·rename_i h;exact e_tup (trA_ok hr _ h)
 ·exact e_bad
theorem trLs_ok (hr:∀ e,QE X e (r e))(es:List Expr)(p:Pos):QE X (.List es p) (trLs r es):=by
 unfold trLs
 split
 ·rename_i h;exact e_lst (trA_ok hr _ h)
 ·exact e_bad
theorem trCl_ok (O:Okx S F k c X)(hr:∀ e,QE X e (r e))(f:Expr)(args:List Expr)(kws:List Keyword)(p:Pos):QE X (.Call f args kws p) (trCl S F r c f args p kws):=by
 unfold trCl
 split
 ·exact trCall3_ok O hr _ _ _
 ·exact e_bad
end
theorem step_ok {S:Sig}{F:Str->MF}{k:Nat}{rE:Cs->Expr->ME}{rT:Cs->Expr->MT}(hE:∀ c X,Okx S F k c X->∀ e,QE X e (rE c e))(hT:∀ c X,Okx S F k c X->∀ e,QT X e (rT c e))(c:Cs)(X:Cx)(O:Okx S F k c X) :
  (∀ e,QE X e (stepE S F rE rT c e))/\∀ e,QT X e (stepT S rE rT c e):=by
 have hr:=hE c X O
 have ht:=hT c X O
 constructor
 ·intro e
  cases e with
  | Name x p=>exact trN_ok O _ _
  | Constant v n p=>exact trK_ok v n p
  | BinOp a op b p=>exact trBin_ok (hr _) (hr _) _ _
  | UnaryOp op a p=>exact trU_ok hr op a p
  | Compare a ops bs p=>exact trCm_ok O hr a ops bs p
  | BoolOp op vs p=>exact trBo_ok hr _ _ _
  | IfExp t a b p=>exact e_if (ht _) (hr _) (hr _)
  | Tuple es n p=>exact trTp_ok hr es n p
  | List es p=>exact trLs_ok hr es p
  | Dict ks vs p=>exact trDc_ok O hr ks vs p
  | Subscript a b p=>exact trSb_ok O hr a b p
  | Call f args kws cpos=>exact trCl_ok O hr f args kws cpos
  | ListComp elt gs scope p=>
   show QE X _ (trLc S rE rT c elt scope gs)
   unfold trLc
   split
   ·exact trComp_ok hE hT c X O _ _ _ _ _ _
   ·exact e_bad
  | _=>exact e_bad
 ·intro e
  cases e with
  | BoolOp op vs p=>exact t_bool (trBoT_ok ht _ _ _)
  | UnaryOp op a p=>
   cases op
   case Not=>exact t_not (ht _)
   all_goals exact trTr_ok hr _
  | Compare a ops bs p=>exact trCmT_ok O hr a ops bs p
  | _=>exact trTr_ok hr _
theorem tr_ok {S:Sig}{F:Str->MF}{k:Nat}:∀ (n:Nat),(∀ c X,Okx S F k c X->∀ e,QE X e ((tr S F n).1 c e))/\∀ c X,Okx S F k c X->∀ e,QT X e ((tr S F n).2 c e)
 | 0=>⟨fun c X O e=>e_bad,fun c X O e=>t_bad⟩
 | n+1=>by
  have ih:=tr_ok (S:=S) (F:=F) (k:=k) n
  exact ⟨fun c X O e=>(step_ok ih.1 ih.2 c X O).1 e,fun c X O e=>(step_ok ih.1 ih.2 c X O).2 e⟩
end L3
namespace L3
open PySem L2
noncomputable def gBad:MG:=fun _ _ _=>none
noncomputable def tgtIx (c:Cs):List Expr->Option (List Nat)
 | []=>some []
 | .Name x _::r=>if owned c x then (idx x c.N).bind fun i=>(tgtIx c r).map (i::·) else none
 | _=>none
noncomputable def trG (c:Cs):Expr->MG
 | .Name x _=>if owned c x then (match idx x c.N with|some i=>gSet i|none=>gBad) else gBad
 | .Tuple es _ _=>match tgtIx c es with|some is=>gTupD is|none=>gBad
 | _=>gBad
noncomputable def trB (r:Stmt->MS):List Stmt->MS
 | []=>mNext
 | [s]=>r s
 | s::t=>mSeq (r s) (trB r t)
noncomputable def trCmpSet (S:Sig)(E:Cs->Expr->ME)(T:Cs->Expr->MT)(c:Cs)(i:Nat):Expr->MS
 | .ListComp elt [⟨tg,iter,ifs,0⟩] scope _=>mSet i (trComp S E T c elt tg iter ifs scope)
 | _=>mBadS
noncomputable def trAsg (S:Sig)(E:Cs->Expr->ME)(T:Cs->Expr->MT)(c:Cs)(tg e:Expr):MS:=match tg with
 | .Name y _=>if owned c y then (match idx y c.N with
   | some i=>if noComp e then mSet i (E c e) else trCmpSet S E T c i e
   | none=>mBadS) else mBadS
 | .Tuple es _ _=>if noTup e then (match tgtIx c es with|some is=>mAsg (E c e) (gTupD is)|none=>mBadS)
   else mBadS
 | .Subscript o i _=>if noComp e&&noSlice i then mPut (E c o) (E c i) (E c e) else mBadS
 | _=>mBadS
noncomputable def wFuel:Nat:=1000000000
noncomputable def stepS (S:Sig)(E:Cs->Expr->ME)(T:Cs->Expr->MT)(c:Cs)(r:Stmt->MS):Stmt->MS
 | .Return (some e) _=>mRet (E c e)
 | .Return none _=>mRet (mC .non)
 | .If t a b _=>mIfS (T c t) (trB r a) (trB r b)
 | .Assign [tg] e _=>trAsg S E T c tg e
 | .Expr e _=>if noComp e then mDrop (E c e) else mBadS
 | .For tg iter body [] _=>if noSet iter then mForI (trIG S (E c) c tg iter) (trG c tg) (trB r body) else mBadS
 | .While t body [] _=>mWhile wFuel (T c t) (trB r body)
 | .Pass _=>mNext
 | _=>mBadS
noncomputable def trS (S:Sig)(F:Str->MF)(m:Nat)(c:Cs):Nat->Stmt->MS
 | 0=>fun _=>mBadS
 | n+1=>stepS S (tr S F m).1 (tr S F m).2 c (trS S F m c n)
section
variable {S:Sig}{F:Str->MF}{k:Nat}{c:Cs}{X:Cx}
theorem Okx.own (O:Okx S F k c X){x:Str}(h:owned c x=true):L2.Loc X.env.scope x:=by
 unfold owned at h
 rw [Bool.or_eq_true] at h
 unfold L2.Loc
 rw [O.ks]
 exact h.imp of_decide_eq_true of_decide_eq_true
theorem tgtIx_ok (O:Okx S F k c X)(hf:∀ x,X.fn x=true):∀ (es:List Expr)(is:List Nat),tgtIx c es=some is->QGs X es is
 | [],is,h=>by cases h;exact gs_nil
 | e::es,is,h=>by
  cases e with
  | Name x p=>
   unfold tgtIx at h
   split at h
   ·rename_i ho
    obtain ⟨i,h1,h⟩:=Option.bind_eq_some_iff.mp h
    obtain ⟨js,h2,h⟩:=Option.map_eq_some_iff.mp h
    subst h
    exact gs_cons i O.nd (tgtIx_ok O hf es js h2) (by rw [O.N];exact idx_get h1) (O.own ho) (.inl (hf x))
   ·cases h
  | _=>cases h
theorem trG_ok (O:Okx S F k c X)(hf:∀ x,X.fn x=true)(e:Expr):QG X e (trG c e):=by
 unfold trG
 split
 ·split
  ·rename_i ho
   split
   ·rename_i i hi
    exact g_name i O.nd (by rw [O.N];exact idx_get hi) (O.own ho) (.inl (hf _))
   ·exact g_bad fun _ _ _=>rfl
  ·exact g_bad fun _ _ _=>rfl
 ·split
  ·rename_i is hi
   exact g_tup (tgtIx_ok O hf _ is hi) O.calm
  ·exact g_bad fun _ _ _=>rfl
 ·exact g_bad fun _ _ _=>rfl
theorem trB_ok {r:Stmt->MS}(hr:∀ s,QS X s (r s)):∀ ss:List Stmt,QB X ss (trB r ss)
 | []=>b_nil
 | [s]=>b_one (hr s)
 | s::t::ts=>b_cons (hr s) (trB_ok hr (t::ts))
theorem swaps_comp {elt tg iter:Expr}{ifs:List Expr}{scope:Scope}{pos py:Pos}{y:Str}{n:Nat}{env:Env} :
  ∃ b:Bool,swapsWith (.ListComp elt [⟨tg,iter,ifs,0⟩] scope pos) (some (.Name y py)) n env=pure b/\(b=true->env.kindOf y=some .local):=by
 refine ⟨env.blockKind == .function&&env.kindOf y == some .local&&py.line == pos.line&&!(scope.names.any fun (n,k)=>n == y&&(k == .local||k == .cell)),rfl,fun h=>?_⟩
 simp only [Bool.and_eq_true,beq_iff_eq] at h
 exact h.1.1.2
theorem trCmpSetI_ok (O:Okx S F k c X)(hf:∀ x,X.fn x=true){E:Cs->Expr->ME}{T:Cs->Expr->MT}(hE:∀ c X,Okx S F k c X->∀ e,QE X e (E c e))(hT:∀ c X,Okx S F k c X->∀ e,QT X e (T c e))
  {i:Nat}{y:Str}{py spos:Pos}(hi:X.N[i]? = some y)(hy:owned c y=true)(elt tg iter:Expr)(ifs:List Expr)(scope:Scope)(pos:Pos){mi:MI}(hmi:PI X tg iter (tMI X.K mi)):QS X (.Assign [.Name y py] (.ListComp elt [⟨tg,iter,ifs,0⟩] scope pos) spos) (mSet i (trCompI mi E T c elt tg iter ifs scope)):=by
  obtain ⟨b,hb1,hb2⟩:=swaps_comp (elt:=elt) (tg:=tg) (iter:=iter) (ifs:=ifs) (scope:=scope) (pos:=pos) (py:=py) (y:=y) (n:=spos.line) (env:=X.env)
  cases b with
  | false=>exact ⟨pms_set O.nd hi (O.own hy) (trCompI_ok hE hT c X O elt tg iter ifs scope pos hmi).h hb1 (.inl (hf y))⟩
  | true=>
   unfold trCompI
   split
   ·rename_i xs hx
    split
    ·rename_i h
     rw [Bool.and_eq_true] at h
     refine ⟨fun pins s σ H D I q=>?_⟩
     exact pms_compSet ((compB_ok O h.1).1.ok I.ok) O.nd O.calm hmi (fun d μ z=>(tg_ok O hx h.1 [] 0 s H []).2 d μ z) (fun C s₀ H₀ fp=>(tg_ok O hx h.1 _ C s₀ H₀ fp).1) (fun C s₀ H₀ fp=>(trIfs_ok (hT _ _ (O.comp h.1)) _).h) (fun C s₀ H₀ fp=>(hE _ _ (O.comp h.1) _).h) (folded_of h.2) hi (hb2 rfl) hb1 pins s σ H D I q
    ·exact s_badSet
   ·exact s_badSet
theorem trCmpSet_ok (O:Okx S F k c X)(hf:∀ x,X.fn x=true){E:Cs->Expr->ME}{T:Cs->Expr->MT}(hE:∀ c X,Okx S F k c X->∀ e,QE X e (E c e))(hT:∀ c X,Okx S F k c X->∀ e,QT X e (T c e))
  {i:Nat}{y:Str}{py spos:Pos}(hi:X.N[i]? = some y)(hy:owned c y=true)(e:Expr):QS X (.Assign [.Name y py] e spos) (trCmpSet S E T c i e):=by
 unfold trCmpSet
 split
 ·exact trCmpSetI_ok O hf hE hT hi hy _ _ _ _ _ _ (trIG_ok O (hE c X O) _ _)
 ·exact s_bad
theorem trAsg_ok (O:Okx S F k c X)(hf:∀ x,X.fn x=true){E:Cs->Expr->ME}{T:Cs->Expr->MT}(hE:∀ c X,Okx S F k c X->∀ e,QE X e (E c e))(hT:∀ c X,Okx S F k c X->∀ e,QT X e (T c e))(tg e:Expr)(pos:Pos) :
  QS X (.Assign [tg] e pos) (trAsg S E T c tg e):=by
 unfold trAsg
 split
 ·split
  ·rename_i ho
   split
   ·rename_i i hi
    have hi':=idx_get hi
    rw [<- O.N] at hi'
    split
    ·rename_i hn
     exact s_set i O.nd (hE c X O e) hn hi' (O.own ho) (.inl (hf _))
    ·exact trCmpSet_ok O hf hE hT hi' ho e
   ·exact s_bad
  ·exact s_bad
 ·split
  ·rename_i hn
   split
   ·rename_i is hi
    exact s_unp (hE c X O e) (g_tup (tgtIx_ok O hf _ is hi) O.calm) hn
   ·exact s_bad
  ·exact s_bad
 ·split
  ·rename_i h
   rw [Bool.and_eq_true] at h
   exact s_put O.room (hE c X O _) (hE c X O _) (hE c X O _) h.1
  ·exact s_bad
 ·exact s_bad
theorem stepS_ok (O:Okx S F k c X)(hf:∀ x,X.fn x=true){E:Cs->Expr->ME}{T:Cs->Expr->MT}(hE:∀ c X,Okx S F k c X->∀ e,QE X e (E c e))(hT:∀ c X,Okx S F k c X->∀ e,QT X e (T c e)){r:Stmt->MS}(hr:∀ s,QS X s (r s))(st:Stmt) :
  QS X st (stepS S E T c r st):=by
 unfold stepS
 split
 ·exact s_ret (hE c X O _)
 ·exact s_retN
 ·exact s_if (hT c X O _) (trB_ok hr _) (trB_ok hr _)
 ·exact trAsg_ok O hf hE hT _ _ _
 ·split
  ·rename_i h;exact s_expr (hE c X O _) h
  ·exact s_bad
 ·split
  ·rename_i h
   exact s_forG (trIG_ok O (hE c X O) _ _) (trG_ok O hf _) (trB_ok hr _) O.never O.calm h
  ·exact s_bad
 ·exact s_while _ (hT c X O _) (trB_ok hr _) O.never
 ·exact s_pass
 ·exact s_bad
theorem trS_ok (O:Okx S F k c X)(hf:∀ x,X.fn x=true)(m:Nat):∀ (n:Nat)(st:Stmt),QS X st (trS S F m c n st)
 | 0,_=>s_bad
 | n+1,st=>stepS_ok O hf (tr_ok m).1 (tr_ok m).2 (trS_ok O hf m n) st
end
noncomputable def dfPs (st:Stmt):List Str:=(defArgs st).args.map (·.arg)
noncomputable def dfN (st:Stmt):List Str:=dfPs st++(defScope st).names.filterMap fun y=>if (y.2 == NameKind.local||y.2 == NameKind.cell)&&!(dfPs st).contains y.1 then some y.1 else none
noncomputable def scopeB (st:Stmt):Bool:=
 decide ((defScope st).kind=.function)&&!(defScope st).isCoroutine&&!(defScope st).isGenerator&&decide (dfN st).Nodup &&
 ((dfPs st).all fun x=>decide ((defScope st).names.lookup x=some .local)||decide ((defScope st).names.lookup x=some .cell))&&((defScope st).names.all fun y=>decide (y.2≠.free))
theorem scopeB_ok {st:Stmt}(h:scopeB st=true):FnScope (dfN st) (dfPs st) (defScope st):=by
 unfold scopeB at h
 simp only [Bool.and_eq_true,decide_eq_true_eq,Bool.not_eq_true',List.all_eq_true,Bool.or_eq_true] at h
 obtain ⟨⟨⟨⟨⟨h1,h2⟩,h3⟩,h4⟩,h5⟩,h6⟩:=h
 exact ⟨h1,h2,h3,h4,by unfold dfN;simp,h5,h6⟩
noncomputable def eFuel:Nat:=40
noncomputable def sFuel:Nat:=40
noncomputable def bodyM (S:Sig)(F:Str->MF)(st:Stmt):MF:=runM (dfN st).length (trB (trS S F eFuel ⟨dfN st,(defScope st).names⟩ sFuel) (defBody st))
noncomputable def fnM (S:Sig)(ds:List (Str×Stmt)):Nat->Str->MF
 | 0,_=>fun _ _=>none
 | k+1,x=>match ds.lookup x with
  | none=>fun _ _=>none
  | some st=>bodyM S (fnM S ds k) st
structure DefAt (K:PySem.W.Frag)(mg:Str->Option Value)(x:Str)(st:Stmt):Prop where
 ex:∃ f fd,Fun K x x st f fd/\mg x=some (.ref f)/\Binds K fd (dfPs st) []
structure TxtOk (P:Program)(w:World)(K:PySem.W.Frag)(mg:Str->Option Value)(S:Sig)(ds:List (Str×Stmt)):Prop where
 fns:∀ x n,S.fn.lookup x=some n->∃ st,ds.lookup x=some st/\(dfPs st).length=n
 defs:∀ x st,ds.lookup x=some st->DefAt K mg x st/\scopeB st=true
 con:∀ x d,S.con.lookup x=some d->∃ v u,mg x=some u/\RelV v u/\∀ π n H,IsD K π n H v d
 tab:∀ x kvs,S.tab.lookup x=some kvs->∃ (p:Addr)(vs:List (Key×V))(ws:List (Key×Value)),mg x=some (.ref p)/\(∀ h:Heap,K.In h->h.DictOf (mixKind P w) p ws)/\KV vs ws/\∀ π n H,IsKs K π n H vs kvs
 no:∀ x,S.no.contains x=true->mg x=none
theorem fnM_ok {P:Program}{w:World}{K:PySem.W.Frag}{mg:Str->Option Value}{base:Heap}{S:Sig}{ds:List (Str×Stmt)}(T:TxtOk P w K mg S ds):∀ (k:Nat)(x:Str)(st:Stmt)(f:Addr)(fd:FuncData),ds.lookup x=some st->Fun K x x st f fd->
  FnOk P w K mg base CX0 k f fd (dfPs st) (spM K (dfPs st).length (fnM S ds k x))
 | 0,x,st,f,fd,hl,hF=>⟨fun vs H Q E h=>h.1,fun A outer s H args us vs Q E hr he hb hv hs=>by
   obtain ⟨_,π,ds',μ,d,μ',R,i,hm,kc⟩:=hs
   cases hm⟩
 | k+1,x,st,f,fd,hl,hF=>by
  have ih:=fnM_ok (base:=base) T k
  have e:fnM S ds (k+1) x=bodyM S (fnM S ds k) st:=by
   show (match ds.lookup x with|none=>fun _ _=>none|some st=>bodyM S (fnM S ds k) st)=_
   rw [hl]
  rw [e]
  have Sc:=scopeB_ok (T.defs x st hl).2
  refine fn_okQ hF Sc (by unfold dfN;simp) rfl fun cdv A outer s H E hr=>?_
  have O:Okx S (fnM S ds k) k ⟨dfN st,(defScope st).names⟩ (cxOf CX0 P w K mg base (dfN st) x (defScope st) f cdv A outer s H E).nox:=by
   refine ⟨rfl,Sc.nd,rfl,Sc.kind,rfl,hr,PassesOwn.never,fun y n hy=>?_,T.con,fun y kvs q=>⟨T.tab y kvs q⟩,T.no⟩
   obtain ⟨st',h1,h2⟩:=T.fns y n hy
   obtain ⟨f',fd',F',m',b'⟩:=(T.defs y st' h1).1.ex
   subst h2
   exact ⟨f',fd',dfPs st',ih y st' f' fd' h1 F',m',F'.kp,b'⟩
  exact trB_ok (trS_ok O (fun _=>rfl) eFuel sFuel) (defBody st)
theorem weights_of:∀ {ns:List Int}{b:Nat},PySem.W.WData.weightAll (ns.map PySem.W.WData.int)<=b->∀ n∈ns,Builtin.Int.intBits n<=b
 | [],_,_,n,hn=>nomatch hn
 | m::ns,b,h,n,hn=>by
  have e:PySem.W.WData.weightAll ((m::ns).map PySem.W.WData.int)=PySem.W.WData.weight (.int m)+1+PySem.W.WData.weightAll (ns.map PySem.W.WData.int):=rfl
  have e2:PySem.W.WData.weight (.int m)=Builtin.Int.intBits m:=rfl
  rw [e,e2] at h
  rcases List.mem_cons.mp hn with rfl|hn
  ·omega
  ·exact weights_of (b:=b) (by omega) n hn
section
open PySem PySem.W PySem.Calls PyProof.Rows
theorem attach_callB {l:PySem.W.OpenLaw}{n:Nat}{q:Program}{loose:List Str}{XP:(Str->Option Value)->Heap->Prop}{YP:World->Heap->Prop}{d:DefRec}
  (hn:l.most=some n)(hdf:d.params.defaults=[])
  (call:∀ (w:World)(s₀ s₁:Shared)(mg mb:Str->Option Value)(fa:Addr)(o:Obj)(pm cd doc:Value)(a:Addr)(vs:List Value)(ns:List Int),
   Ground q loose [] XP w s₀ mg mb s₁.heap->YP w s₁.heap->
   s₁.heap.get? fa=some o->o.data=.func (docDef d.name d.params d.body d.scope pm cd doc)->s₁.heap.CodeRec cd d.name->mg d.name=some (.ref fa)->
   s₁.heap.get? a=some { cls:=.type "list",data:=.seq vs.toArray }->IntsAre vs ns->ns.length<=n->(∀ m∈ns,Builtin.Int.intBits m<=2 ^ 20)->s₁.gens = #[]->
   codeAny (model l.prog w) callerA (.call (.ref fa) ⟨[.ref a],[]⟩) (fun r s'=>r=.ok (.ret (.bool true))/\OldK s₁.heap s'.heap/\s'.os=s₁.os/\AllBare s'.gens) s₁) :
  PySem.W.WalkO q loose XP YP l.row.toRowW d [] (fun f vs=>PySem.call f vs):=by
 intro w s₀ s₁ mg mb G Y fa o pm cd doc dV kV ho hd hcd hD hmg hg args vals as hpre hlay hrd hwl hlo
 obtain rfl:dV=.none:=Dflts.none hD hdf
 obtain rfl:kV=.none:=Dflts.noKw hD
 obtain ⟨a,vs,ns,rfl,rfl,hobj,hints,hlen⟩:=Att.script_of hn hpre hwl
 have hb:∀ m∈ns,Builtin.Int.intBits m<=2 ^ 20:=by
  have h1:PySem.W.WData.layable (.list (ns.map PySem.W.WData.int))=true:=by
   have:=hlay
   unfold PySem.W.WData.layableAll at this
   simpa using this
  unfold PySem.W.WData.layable at h1
  rw [Bool.and_eq_true] at h1
  exact weights_of (of_decide_eq_true h1.2)
 refine enter_call (codeAny_mono (call w s₀ s₁ mg mb fa o pm cd doc a vs ns G Y ho (fd_plain hd) hcd hmg hobj hints hlen hb hg) fun r s' hq=>?_)
 obtain ⟨rfl,h2,h3,h4⟩:=hq
 exact ⟨.inl ⟨.bool true,.bool true,[],rfl,fun _=>rfl,.bool true,Att.post_true l _,fun _=>⟨List.Pairwise.nil,fun _ hm=>(nomatch hm)⟩⟩,h2,h3,h4⟩
end
theorem walkM {l:PySem.W.OpenLaw}{q:Program}{loose:List Str}{XP:(Str->Option Value)->Heap->Prop}{YP:World->Heap->Prop}{d:DefRec}{K:Params->PySem.W.Frag}{S:Sig}{ds:List (Str×Stmt)}{k:Nat}{st:Stmt}{x:Str}(hn:l.most=some 63)(hdf:d.params.defaults=[])
  (hr:Room k callerA)(hY:∀ (w:World)(h:Heap),YP w h->(K w.params).In h)(hl:ds.lookup d.name=some st)(hx:dfPs st=[x])
  (T:∀ (w:World)(mg:Str->Option Value)(h:Heap),(K w.params).In h->h.Ns mainGlobals mg->TxtOk l.prog w (K w.params) mg S ds/\∃ f fd,Fun (K w.params) d.name d.name st f fd/\mg d.name=some (.ref f)/\∀ (s:Shared)(u:Value),BindsTo s fd ⟨[u],[]⟩ [(x,u)])
  (M:∀ ns:List Int,ns.length<=63->(∀ m∈ns,Builtin.Int.intBits m<=2 ^ 20)->∃ μ',fnM S ds k d.name [.rol (ns.map D.int)] []=some (.bl true,μ')) :
  PySem.W.WalkO q loose XP YP l.row.toRowW d [] (fun f vs=>PySem.call f vs):=by
 refine attach_callB hn hdf fun w s₀ s₁ mg mb fa o pm cd doc a vs ns G Y ho hd hcd hmg hobj hints hlen hbd hg=>?_
 have KX:=hY w _ Y
 obtain ⟨hT,f,fd,hF,hm,hb⟩:=T w mg _ KX G.T.g
 rw [hmg] at hm
 cases hm
 refine L2.law_call (CX:=CX0) (sp:=spM (K w.params) 1 (fnM S ds k d.name)) KX G.T.g G.T.b G.T.builtins G.T.nolimit hg hobj hints (Nat.le_trans hlen (by decide)) hr (fun base hb1 hb2=>?_) hb (fun H hO hS=>?_) fun H e s' z=>z
 ·have:=fnM_ok (base:=base) hT k d.name st fa fd hl hF
  rw [hx] at this
  exact this
 ·refine ⟨rfl,fun _=>0,[.rol (ns.map D.int)],[],.bl true,?_⟩
  obtain ⟨μ',hM⟩:=M ns hlen hbd
  have hro:RoL (K w.params) H a (ns.map V.int):=by
   rcases hS with (h|h)|h
   ·rcases hO a with z|⟨o,xs,z⟩
    ·rw [z] at h;cases h
    ·rw [z] at h;cases h
   ·exact .inl h
   ·exact .inr h
  refine ⟨μ',⟨fun i j hi=>absurd hi (Nat.not_lt_zero _),fun i hi=>absurd hi (Nat.not_lt_zero _),fun i xs h=>(by cases h),fun i xs h=>(by cases h),fun i xs h=>(by cases h)
   ⟩,.cons (.rol hro ?_) .nil,hM,fun π' v H' _ _ hv=>?_⟩
  ·have:∀ ns:List Int,IsDs (K w.params) (fun _=>0) ([]:Hm).length H (ns.map V.int) (ns.map D.int):=fun ns=>by
    induction ns with
    | nil=>exact .nil
    | cons n r ih=>exact .cons (.int n) ih
   exact this ns
  ·cases hv
   rfl
end L3
namespace L3
open PySem L2
theorem lookup_mem {β:Type}:∀ {l:List (Str×β)}{x:Str}{b:β},l.lookup x=some b->(x,b)∈l:=fun h=>PySem.mem_of_lookup h
theorem fns_of {S:Sig}{ds:List (Str×Stmt)}(h:(S.fn.all fun p=>match ds.lookup p.1 with|some st=>decide ((dfPs st).length=p.2)|none=>false)=true):∀ x n,S.fn.lookup x=some n->∃ st,ds.lookup x=some st/\(dfPs st).length=n:=by
 intro x n e
 have:=List.all_eq_true.mp h (x,n) (lookup_mem e)
 dsimp only at this
 split at this
 ·rename_i st hs
  exact ⟨st,hs,of_decide_eq_true this⟩
 ·cases this
theorem defs_of {K:PySem.W.Frag}{mg:Str->Option Value}{ds:List (Str×Stmt)}(h:∀ p∈ds,DefAt K mg p.1 p.2/\scopeB p.2=true):∀ x st,ds.lookup x=some st->DefAt K mg x st/\scopeB st=true:=fun x st e=>h (x,st) (lookup_mem e)
theorem con_of {K:PySem.W.Frag}{mg:Str->Option Value}{cs:List (Str×D)}(h:∀ p∈cs,∃ v u,mg p.1=some u/\RelV v u/\∀ π n H,IsD K π n H v p.2):∀ x d,cs.lookup x=some d->∃ v u,mg x=some u/\RelV v u/\∀ π n H,IsD K π n H v d:=fun x d e=>h (x,d) (lookup_mem e)
inductive EntsOf (w:World):List DictEntry->List (Key×Value)->Prop where
 | nil:EntsOf w [] []
 | cons {e:DictEntry}{k:Key}{v:Value}{es:List DictEntry}{kvs:List (Key×Value)}(h:keyIs k e.key=true)(hh:e.hash=keyH w k)(hv:e.val=v)(t:EntsOf w es kvs):EntsOf w (e::es) ((k,v)::kvs)
theorem EntsOf.keys {P:Program}{w:World}{es:List DictEntry}{kvs:List (Key×Value)}(x:EntsOf w es kvs):∀ e∈es,∃ k,(mixKind P w).is k e.key=true/\e.hash=(mixKind P w).hash k:=by
 induction x with
 | nil=>intro e he;exact nomatch he
 | @cons e k v es kvs h hh hv _ ih=>
  intro e' he
  rcases List.mem_cons.mp he with rfl|he
  ·exact ⟨k,h,hh⟩
  ·exact ih e' he
theorem no_of {mg:Str->Option Value}{ns:List Str}(h:∀ x∈ns,mg x=none):∀ x,ns.contains x=true->mg x=none:=fun x e=>h x (by simpa using e)
noncomputable def lstU:Nat->(Nat->Value)->List Value
 | 0,_=>[]
 | n+1,u=>u 0::lstU n fun i=>u (i+1)
theorem lstU_of:∀ us:List Value,∃ u,us=lstU us.length u
 | []=>⟨fun _=>.none,rfl⟩
 | v::us=>let ⟨u,hu⟩:=lstU_of us;⟨fun i=>match i with|0=>v|i+1=>u i,congrArg (v::·) hu⟩
noncomputable abbrev BindT:Type:=Value->Value->Value->Option Addr->Value->Value->(Nat->Value)->Sem (List (Str×Value))
noncomputable def fOb (x:Str)(st:Stmt)(m:Value)(c:Addr):Obj:=⟨Value.type "function",none,.func (PySem.W.fnOf x x (defArgs st) (defBody st) (defScope st) .none .none .none m none (.ref c) .none),#[]⟩
noncomputable def dfIs (K:PySem.W.Frag)(d:(Str×Stmt)×Value×Addr×Addr):Option (Option Value)×Option Obj×Bool×Bool×Bool×BindT:=(PySem.W.nsIn K mainGlobals d.1.1,K.lookup d.2.2.2,PySem.W.codeIn K (.ref d.2.2.1) d.1.1,PySem.W.keepIn K (.ref d.2.2.2),scopeB d.1.2,fun kV doc pm an cdv ct u=>bindArgs (PySem.W.fnOf d.1.1 d.1.1 (defArgs d.1.2) (defBody d.1.2) (defScope d.1.2) .none kV doc pm an cdv ct) ⟨lstU (dfPs d.1.2).length u,[]⟩)
noncomputable def dfTo (d:(Str×Stmt)×Value×Addr×Addr):Option (Option Value)×Option Obj×Bool×Bool×Bool×BindT:=(some (some (.ref d.2.2.2)),some (fOb d.1.1 d.1.2 d.2.1 d.2.2.1),true,true,true,fun _ _ _ _ _ _ u=>pure ((dfPs d.1.2).zip (lstU (dfPs d.1.2).length u)))
noncomputable def fsOf (K:PySem.W.Frag)(d:Str×Stmt):(Str×Stmt)×Value×Addr×Addr:=(d,match PySem.W.nsIn K mainGlobals d.1 with
 | some (some (.ref f))=>(match K.lookup f with
  | some ⟨_,_,.func fd,_⟩=>(match fd.code with
   | .ref c=>(fd.pyModule,c,f)
   | _=>(.none,0,0))
  | _=>(.none,0,0))
 | _=>(.none,0,0))
noncomputable def defsZ (K:PySem.W.Frag)(ds:List (Str×Stmt)):Prop:=ds.map (fun d=>dfIs K (fsOf K d))=ds.map fun d=>dfTo (fsOf K d)
theorem defs_z {K:PySem.W.Frag}{h:Heap}{mg:Str->Option Value}(X:K.In h)(G:h.Ns mainGlobals mg){ds:List (Str×Stmt)}(q:defsZ K ds):∀ p∈ds,(DefAt K mg p.1 p.2/\scopeB p.2=true)/\∃ f fd,Fun K p.1 p.1 p.2 f fd/\mg p.1=some (.ref f)/\∀ us:List Value,us.length=(dfPs p.2).length->bindArgs fd ⟨us,[]⟩=pure ((dfPs p.2).zip us):=by
 intro p0 hp
 have t:=List.map_inj_left.mp q p0 hp
 have e:(fsOf K p0).1=p0:=rfl
 generalize fsOf K p0=d at t e
 obtain ⟨p,m,c,f⟩:=d
 cases e
 unfold dfIs dfTo at t
 obtain ⟨a,t⟩:=Prod.mk.inj t
 obtain ⟨l,t⟩:=Prod.mk.inj t
 obtain ⟨c,t⟩:=Prod.mk.inj t
 obtain ⟨k,t⟩:=Prod.mk.inj t
 obtain ⟨s,b⟩:=Prod.mk.inj t
 have F:=fun_mk (st:=p.2) l c k
 have D:=fun kV doc pm an cdv ct (us:List Value)(hl:us.length=(dfPs p.2).length)=>(by
  obtain ⟨u,hu⟩:=lstU_of us
  rw [hl] at hu
  rw [hu]
  exact congrFun (congrFun (congrFun (congrFun (congrFun (congrFun (congrFun b kV) doc) pm) an) cdv) ct) u:bindArgs (PySem.W.fnOf p.1 p.1 (defArgs p.2) (defBody p.2) (defScope p.2) .none kV doc pm an cdv ct) ⟨us,[]⟩=pure ((dfPs p.2).zip us))
 exact ⟨⟨⟨_,_,F,PySem.W.mg_of X G a,F.binds D⟩,s⟩,_,_,F,PySem.W.mg_of X G a,D _ _ _ _ _ _⟩
theorem law_z {K:PySem.W.Frag}{h:Heap}{mg:Str->Option Value}(X:K.In h)(G:h.Ns mainGlobals mg){ds:List (Str×Stmt)}(q:defsZ K ds){x y:Str}{st:Stmt}(hl:ds.lookup x=some st)(hp:dfPs st=[y]):∃ f fd,Fun K x x st f fd/\mg x=some (.ref f)/\∀ (s:Shared)(u:Value),BindsTo s fd ⟨[u],[]⟩ [(y,u)]:=by
 obtain ⟨f,fd,F,m,b⟩:=(defs_z X G q (x,st) (lookup_mem hl)).2
 dsimp only at b
 rw [hp] at b
 exact ⟨f,fd,F,m,fun s u=>.of_eq (b [u] rfl)⟩
theorem no_z {K:PySem.W.Frag}{h:Heap}{mg:Str->Option Value}(X:K.In h)(G:h.Ns mainGlobals mg){ns:List Str}(q:ns.map (PySem.W.nsIn K mainGlobals)=ns.map fun _=>some none):∀ x∈ns,mg x=none:=fun x hx=>PySem.W.mg_none_of X G (List.map_inj_left.mp q x hx)
noncomputable def all2B {α β:Type}(f:α->β->Bool):List α->List β->Bool
 | [],[]=>true
 | a::as,b::bs=>f a b&&all2B f as bs
 | _,_=>false
noncomputable def conB (K:PySem.W.Frag):Nat->Value->D->Bool
 | 0,_,_=>false
 | k+1,u,d=>match d with
  | .non=>(match u with|.none=>true|_=>false)
  | .bl b=>(match u with|.bool c=>decide (b=c)|_=>false)
  | .int i=>(match u with|.int j _=>decide (i=j)|_=>false)
  | .str x=>(match u with|.str y _=>decide (x=y)|_=>false)
  | .tup ds=>(match u with
   | .ref p=>(match K.lookup p with
    | some ⟨.type t,none,.seq its _,_⟩=>decide (t = "tuple")&&decide (its.size<=1000)&&all2B (conB K k) its.toList ds
    | _=>false)
   | _=>false)
  | .rol ds=>(match u with
   | .ref p=>(match K.lookup p with
    | some ⟨.type t,none,.seq its _,_⟩=>decide (t = "list")&&decide (its.size<=1000)&&all2B (conB K k) its.toList ds
    | _=>false)
   | _=>false)
  | _=>false
theorem all2_ok {K:PySem.W.Frag}{f:Value->D->Bool}(h:∀ u d,f u d=true->∃ v,RelV v u/\∀ π n H,IsD K π n H v d):∀ us ds,all2B f us ds=true->∃ vs,Vals vs us/\∀ π n H,IsDs K π n H vs ds
 | [],[],_=>⟨[],.nil,fun _ _ _=>.nil⟩
 | u::us,d::ds,e=>by
  obtain ⟨a,b⟩:=Bool.and_eq_true_iff.mp e
  obtain ⟨v,r,q⟩:=h u d a
  obtain ⟨vs,rs,qs⟩:=all2_ok h us ds b
  exact ⟨v::vs,.cons r rs,fun _ _ _=>.cons (q _ _ _) (qs _ _ _)⟩
 | [],_::_,e=>nomatch e
 | _::_,[],e=>nomatch e
theorem con_ok {K:PySem.W.Frag}:∀ (k:Nat)(u:Value)(d:D),conB K k u d=true->∃ v,RelV v u/\∀ π n H,IsD K π n H v d
 | 0,_,_,e=>nomatch e
 | k+1,u,d,e=>by
  have seq:∀ {p:Addr}{ds:List D}{c:String},(match K.lookup p with|some ⟨.type t,none,.seq its _,_⟩=>decide (t=c)&&decide (its.size<=1000)&&all2B (conB K k) its.toList ds|_=>false)=true->∃ vs its n sl,K.lookup p=some ⟨.type c,none,.seq its n,sl⟩/\its.size<=sizeLine/\Vals vs its.toList/\∀ π n H,IsDs K π n H vs ds:=fun {p ds c} e=>by
   split at e
   ·rename_i t its n sl hk
    obtain ⟨e,q⟩:=Bool.and_eq_true_iff.mp e
    obtain ⟨a,b⟩:=Bool.and_eq_true_iff.mp e
    cases of_decide_eq_true a
    obtain ⟨vs,r,i⟩:=all2_ok (con_ok k) _ _ q
    exact ⟨vs,its,n,sl,hk,Nat.le_trans (of_decide_eq_true b) (by decide),r,i⟩
   ·cases e
  cases d with
  | non=>cases u with
   | none=>exact ⟨.non,rfl,fun _ _ _=>.non⟩
   | _=>cases e
  | bl b=>cases u with
   | bool c=>cases of_decide_eq_true e;exact ⟨.bl b,rfl,fun _ _ _=>.bl _⟩
   | _=>cases e
  | int b=>cases u with
   | int c=>cases of_decide_eq_true e;exact ⟨.int b,⟨_,rfl⟩,fun _ _ _=>.int _⟩
   | _=>cases e
  | str b=>cases u with
   | str c=>cases of_decide_eq_true e;exact ⟨.str b,⟨_,rfl⟩,fun _ _ _=>.str _⟩
   | _=>cases e
  | tup ds=>cases u with
   | ref p=>
    obtain ⟨vs,its,n,sl,hk,hs,r,i⟩:=seq e
    exact ⟨.ref p,rfl,fun _ _ _=>.tup (vs:=vs) (.inr ⟨_,its,n,hk,rfl,rfl,rfl,hs,r⟩) (i _ _ _)⟩
   | _=>cases e
  | rol ds=>cases u with
   | ref p=>
    obtain ⟨vs,its,n,sl,hk,hs,r,i⟩:=seq e
    exact ⟨.ref p,rfl,fun _ _ _=>.rol (vs:=vs) (.inr ⟨_,its,n,hk,rfl,rfl,rfl,hs,r⟩) (i _ _ _)⟩
   | _=>cases e
  | _=>cases e
noncomputable def conZ (K:PySem.W.Frag)(cs:List (Str×D)):Bool:=cs.all fun c=>match PySem.W.nsIn K mainGlobals c.1 with|some (some u)=>conB K 8 u c.2|_=>false
theorem con_z {K:PySem.W.Frag}{h:Heap}{mg:Str->Option Value}(X:K.In h)(G:h.Ns mainGlobals mg){cs:List (Str×D)}(q:conZ K cs=true):∀ p∈cs,∃ v u,mg p.1=some u/\RelV v u/\∀ π n H,IsD K π n H v p.2:=fun p hp=>by
 have t:=List.all_eq_true.mp q p hp
 split at t
 ·rename_i u hu
  obtain ⟨v,r,i⟩:=con_ok _ _ _ t
  exact ⟨v,u,PySem.W.mg_of X G hu,r,i⟩
 ·cases t
end L3
namespace L3
open PySem L2
noncomputable def W {α:Type}(o:Option α)(Q:α->Prop):Prop:=∃ r,o=some r/\Q r
section
variable {α β:Type}{o:Option α}{Q:α->Prop}
theorem W_some {r:α}{Q:α->Prop}:W (some r) Q↔Q r:=⟨fun ⟨_,h,q⟩=>by cases h;exact q,fun q=>⟨r,rfl,q⟩⟩
theorem W_none {Q:α->Prop}:W none Q↔False:=⟨fun ⟨_,h,_⟩=>(by cases h),fun h=>h.elim⟩
theorem W_bind {g:α->Option β}{Q:β->Prop}:W (o.bind g) Q↔W o fun r=>W (g r) Q:=by
 cases o with
 | none=>exact ⟨fun ⟨_,h,_⟩=>(by cases h),fun ⟨_,h,_⟩=>(by cases h)⟩
 | some a=>simp [W_some]
theorem W_map {g:α->β}{Q:β->Prop}:W (o.map g) Q↔W o fun r=>Q (g r):=by
 cases o with
 | none=>exact ⟨fun ⟨_,h,_⟩=>(by cases h),fun ⟨_,h,_⟩=>(by cases h)⟩
 | some a=>simp [W_some]
theorem W_mono {Q':α->Prop}(h:W o Q)(k:∀ r,Q r->Q' r):W o Q':=let ⟨r,e,q⟩:=h;⟨r,e,k r q⟩
theorem W_ite {c:Prop} [Decidable c] {a b:Option α}:W (if c then a else b) Q↔if c then W a Q else W b Q:=by split<;>rfl
end
noncomputable def fin:Option (Fl×Rho×Hm)->Option (D×Hm):=fun o=>o.bind fun p=>match p.1 with|.rt d=>some (d,p.2.2)|.nx=>some (.non,p.2.2)|_=>none
theorem W_fin {o:Option (Fl×Rho×Hm)}{Q:D×Hm->Prop}:W (fin o) Q↔W o fun p=>match p.1 with|.rt d=>Q (d,p.2.2)|.nx=>Q (.non,p.2.2)|_=>False:=by
 unfold fin
 rw [W_bind]
 constructor
 ·exact fun h=>W_mono h fun p q=>by
   obtain ⟨fl,ρ,μ⟩:=p
   cases fl<;>simpa [W_some,W_none] using q
 ·exact fun h=>W_mono h fun p q=>by
   obtain ⟨fl,ρ,μ⟩:=p
   cases fl<;>simpa [W_some,W_none] using q
theorem pre_get {μ μ':Hm}(h:μ <+: μ'){a:Nat}{c:C}(e:μ[a]? = some c):μ'[a]? = some c:=by
 obtain ⟨t,rfl⟩:=h
 have hl:=(List.getElem?_eq_some_iff.mp e).1
 rw [List.getElem?_append_left hl]
 exact e
theorem pre_len {μ μ':Hm}(h:μ <+: μ'):μ.length<=μ'.length:=h.length_le
theorem pre_snoc (μ:Hm)(c:C):μ <+: μ++[c]:=⟨[c],rfl⟩
theorem pre_set {μ μ':Hm}(h:μ <+: μ'){a:Nat}(ha:μ.length<=a)(c:C):μ <+: μ'.set a c:=by
 obtain ⟨t,rfl⟩:=h
 rw [List.set_append_right _ _ ha]
 exact ⟨_,rfl⟩
theorem w_mSeq {a b:MS}{ρ:Rho}{μ:Hm} {Q}:W (mSeq a b ρ μ) Q↔W (a ρ μ) fun p=>match p.1 with|.nx=>W (b p.2.1 p.2.2) Q|_=>Q p:=by
 unfold mSeq
 rw [W_bind]
 constructor
 ·exact fun h=>W_mono h fun p q=>by
   obtain ⟨fl,ρ,μ⟩:=p
   cases fl<;>simpa [W_some,W_none] using q
 ·exact fun h=>W_mono h fun p q=>by
   obtain ⟨fl,ρ,μ⟩:=p
   cases fl<;>simpa [W_some,W_none] using q
theorem w_mRet {m:ME}{ρ:Rho}{μ:Hm} {Q}:W (mRet m ρ μ) Q↔W (m ρ μ) fun p=>Q (.rt p.1,ρ,p.2):=W_map
theorem w_mDrop {m:ME}{ρ:Rho}{μ:Hm} {Q}:W (mDrop m ρ μ) Q↔W (m ρ μ) fun p=>Q (.nx,ρ,p.2):=W_map
theorem w_mSet {i:Nat}{m:ME}{ρ:Rho}{μ:Hm} {Q}:W (mSet i m ρ μ) Q↔W (m ρ μ) fun p=>Q (.nx,ρ.set i (some p.1),p.2):=W_map
theorem w_mNext {ρ:Rho}{μ:Hm} {Q}:W (mNext ρ μ) Q↔Q (.nx,ρ,μ):=W_some
theorem w_mIfS {t:MT}{a b:MS}{ρ:Rho}{μ:Hm} {Q}:W (mIfS t a b ρ μ) Q↔W (t ρ μ) fun p=>if p.1=true then W (a ρ p.2) Q else W (b ρ p.2) Q:=by
 unfold mIfS
 rw [W_bind]
 constructor<;>exact fun h=>W_mono h fun p q=>by
   obtain ⟨x,μ⟩:=p
   cases x<;>simpa using q
theorem w_mIfE {t:MT}{a b:ME}{ρ:Rho}{μ:Hm} {Q}:W (mIfE t a b ρ μ) Q↔W (t ρ μ) fun p=>if p.1=true then W (a ρ p.2) Q else W (b ρ p.2) Q:=by
 unfold mIfE
 rw [W_bind]
 constructor<;>exact fun h=>W_mono h fun p q=>by
   obtain ⟨x,μ⟩:=p
   cases x<;>simpa using q
theorem w_mAndT {a b:MT}{ρ:Rho}{μ:Hm} {Q}:W (mAndT a b ρ μ) Q↔W (a ρ μ) fun p=>if p.1=true then W (b ρ p.2) Q else Q (false,p.2):=by
 unfold mAndT
 rw [W_bind]
 constructor<;>exact fun h=>W_mono h fun p q=>by
   obtain ⟨x,μ⟩:=p
   cases x<;>simpa [W_some] using q
theorem w_mOrT {a b:MT}{ρ:Rho}{μ:Hm} {Q}:W (mOrT a b ρ μ) Q↔W (a ρ μ) fun p=>if p.1=true then Q (true,p.2) else W (b ρ p.2) Q:=by
 unfold mOrT
 rw [W_bind]
 constructor<;>exact fun h=>W_mono h fun p q=>by
   obtain ⟨x,μ⟩:=p
   cases x<;>simpa [W_some] using q
theorem w_mNotT {a:MT}{ρ:Rho}{μ:Hm} {Q}:W (mNotT a ρ μ) Q↔W (a ρ μ) fun p=>Q (!p.1,p.2):=W_map
theorem w_mOp {f:D->D->Hm->Option (D×Hm)}{a b:ME}{ρ:Rho}{μ:Hm} {Q}:W (mOp f a b ρ μ) Q↔W (a ρ μ) fun p=>W (b ρ p.2) fun q=>W (f p.1 q.1 q.2) Q:=by
 unfold mOp
 rw [W_bind]
 simp only [W_bind]
theorem w_mC {d:D}{ρ:Rho}{μ:Hm} {Q}:W (mC d ρ μ) Q↔Q (d,μ):=W_some
theorem w_mVar0 {d:D}{ρ:Rho}{μ:Hm} {Q}:W (mVar 0 (some d::ρ) μ) Q↔Q (d,μ):=by
 show W (some (d,μ)) Q↔_
 exact W_some
theorem w_mVarS {i:Nat}{x:Option D}{ρ:Rho}{μ:Hm} {Q}:W (mVar (i+1) (x::ρ) μ) Q↔W (mVar i ρ μ) Q:=by
 unfold mVar
 rw [List.getElem?_cons_succ]
theorem w_mNil {ρ:Rho}{μ:Hm} {Q}:W (mNil ρ μ) Q↔Q ([],μ):=W_some
theorem w_mCons {a:ME}{r:MA}{ρ:Rho}{μ:Hm} {Q}:W (mCons a r ρ μ) Q↔W (a ρ μ) fun p=>W (r ρ p.2) fun q=>Q (p.1::q.1,q.2):=by
 unfold mCons
 simp only [W_bind,W_some]
theorem w_mTup {ms:MA}{ρ:Rho}{μ:Hm} {Q}:W (mTup ms ρ μ) Q↔W (ms ρ μ) fun p=>p.1.length<=sizeLine/\Q (.tup p.1,p.2):=by
 unfold mTup
 rw [W_bind]
 constructor<;>exact fun h=>W_mono h fun p q=>by
  first
  | (rw [W_ite] at q;split at q
     ·exact ⟨by assumption,W_some.mp q⟩
     ·exact (W_none.mp q).elim)
  | (rw [if_pos q.1];exact W_some.mpr q.2)
theorem w_mLst {ms:MA}{ρ:Rho}{μ:Hm} {Q}:W (mLst ms ρ μ) Q↔W (ms ρ μ) fun p=>p.1.length<=sizeLine/\Q (.loc p.2.length,p.2++[.lst p.1]):=by
 unfold mLst
 rw [W_bind]
 constructor<;>exact fun h=>W_mono h fun p q=>by
  first
  | (rw [W_ite] at q;split at q
     ·exact ⟨by assumption,W_some.mp q⟩
     ·exact (W_none.mp q).elim)
  | (rw [if_pos q.1];exact W_some.mpr q.2)
theorem w_mCall {f:MF}{ms:MA}{ρ:Rho}{μ:Hm} {Q}:W (mCall f ms ρ μ) Q↔W (ms ρ μ) fun p=>W (f p.1 p.2) Q:=W_bind
theorem w_mTest {m:ME}{ρ:Rho}{μ:Hm} {Q}:W (mTest m ρ μ) Q↔W (m ρ μ) fun p=>match p.1 with|.bl b=>Q (b,p.2)|_=>False:=by
 unfold mTest
 rw [W_bind]
 constructor<;>exact fun h=>W_mono h fun p q=>by
  obtain ⟨d,μ⟩:=p
  cases d<;>simpa [W_some,W_none] using q
theorem w_mTru {m:ME}{ρ:Rho}{μ:Hm} {Q}:W (mTru m ρ μ) Q↔W (m ρ μ) fun p=>W (truD p.2 p.1) fun b=>Q (b,p.2):=by
 unfold mTru
 simp only [W_bind,W_map]
theorem w_mNeg {a:ME}{ρ:Rho}{μ:Hm} {Q}:W (mNeg a ρ μ) Q↔W (a ρ μ) fun p=>match p.1 with|.int i=>Q (.int (-i),p.2)|_=>False:=by
 unfold mNeg
 rw [W_bind]
 constructor<;>exact fun h=>W_mono h fun p q=>by
  obtain ⟨d,μ⟩:=p
  cases d<;>simpa [W_some,W_none,W_map,negD] using q
theorem w_mNotV {a:ME}{ρ:Rho}{μ:Hm} {Q}:W (mNotV a ρ μ) Q↔W (a ρ μ) fun p=>match p.1 with|.bl b=>Q (.bl (!b),p.2)|_=>False:=by
 unfold mNotV
 rw [W_bind]
 constructor<;>exact fun h=>W_mono h fun p q=>by
  obtain ⟨d,μ⟩:=p
  cases d<;>simpa [W_some,W_none] using q
theorem w_mAndV {a b:ME}{ρ:Rho}{μ:Hm} {Q}:W (mAndV a b ρ μ) Q↔W (a ρ μ) fun p=>match p.1 with|.bl c=>if c=true then W (b ρ p.2) Q else Q (.bl false,p.2)|_=>False:=by
 unfold mAndV
 rw [W_bind]
 constructor<;>exact fun h=>W_mono h fun p q=>by
  obtain ⟨d,μ⟩:=p
  cases d with
  | bl c=>cases c<;>simpa [W_some] using q
  | _=>simpa [W_none] using q
section
variable {i j:Int}{μ:Hm}{Q:D×Hm->Prop}{a b c d e g:D}
theorem w_addI:W (addD (.int i) (.int j) μ) Q↔Q (.int (i+j),μ):=W_some
theorem w_subI:W (subD (.int i) (.int j) μ) Q↔Q (.int (i - j),μ):=W_some
theorem w_modI (h:0<j):W (modD (.int i) (.int j) μ) Q↔Q (.int (i % j),μ):=by
 show W ((if 0<j then some (i % j) else none).map fun z=>(D.int z,μ)) Q↔_
 rw [if_pos h]
 exact W_some
theorem big30:(1073741824:Int)<2 ^ 4000:=by decide +kernel
theorem w_fdivB (h:0<j)(h2:j<2 ^ 4000):W (fdivD (.int i) (.int j) μ) Q↔Q (.int (i / j),μ):=by
 show W ((if 0<j/\j<2 ^ 4000 then some (i / j) else none).map fun z=>(D.int z,μ)) Q↔_
 rw [if_pos ⟨h,h2⟩]
 exact W_some
theorem w_fdivI (h:0<j)(h2:j<1073741824):W (fdivD (.int i) (.int j) μ) Q↔Q (.int (i / j),μ):=w_fdivB h (Int.lt_trans h2 big30)
theorem w_mulC (h:Builtin.Int.intBits i+Builtin.Int.intBits j<=134217728):W (mulD (.int i) (.int j) μ) Q↔Q (.int (i * j),μ):=by
 show W ((if ((-(2 ^ 64)<i/\i<2 ^ 64)\/(-(2 ^ 64)<j/\j<2 ^ 64))\/(i.natAbs<2 ^ 4000/\j.natAbs<2 ^ 4000)\/Builtin.Int.intBits i+Builtin.Int.intBits j<=134217728 then some (i * j) else none).map fun z=>(D.int z,μ)) Q↔_
 rw [if_pos (.inr (.inr h))]
 exact W_some
theorem w_mulI (h:(-(2 ^ 64)<i/\i<2 ^ 64)\/(-(2 ^ 64)<j/\j<2 ^ 64)):W (mulD (.int i) (.int j) μ) Q↔Q (.int (i * j),μ):=by
 show W ((if ((-(2 ^ 64)<i/\i<2 ^ 64)\/(-(2 ^ 64)<j/\j<2 ^ 64))\/(i.natAbs<2 ^ 4000/\j.natAbs<2 ^ 4000)\/Builtin.Int.intBits i+Builtin.Int.intBits j<=134217728 then some (i * j) else none).map fun z=>(D.int z,μ)) Q↔_
 rw [if_pos (.inl h)]
 exact W_some
theorem w_powI (h:0<=j/\j<=1000000/\i.natAbs<2 ^ 64):W (powD (.int i) (.int j) μ) Q↔Q (.int (i ^ j.toNat),μ):=by
 show W ((if (0<=j/\j<=1000000/\i.natAbs<2 ^ 64)\/(0<=j/\j<=100/\i.natAbs<2 ^ 4000) then some (i ^ j.toNat) else none).map fun z=>(D.int z,μ)) Q↔_
 rw [if_pos (.inl h)]
 exact W_some
theorem w_eqI:W (eqM false (.int i) (.int j) μ) Q↔Q (.bl (i == j),μ):=W_some
theorem w_neI:W (eqM true (.int i) (.int j) μ) Q↔Q (.bl (!(i == j)),μ):=W_some
theorem w_eqS {x y:Str}:W (eqM false (.str x) (.str y) μ) Q↔Q (.bl (x == y),μ):=W_some
theorem w_neS {x y:Str}:W (eqM true (.str x) (.str y) μ) Q↔Q (.bl (!(x == y)),μ):=W_some
theorem w_eqB {x y:Bool}:W (eqM false (.bl x) (.bl y) μ) Q↔Q (.bl (x == y),μ):=W_some
theorem w_ltI:W (ltD (.int i) (.int j) μ) Q↔Q (.bl (decide (i<j)),μ):=W_some
theorem w_leI:W (leD (.int i) (.int j) μ) Q↔Q (.bl (decide (i<=j)),μ):=W_some
theorem w_gtI:W (gtD (.int i) (.int j) μ) Q↔Q (.bl (decide (j<i)),μ):=W_some
theorem w_geI:W (geD (.int i) (.int j) μ) Q↔Q (.bl (decide (j<=i)),μ):=W_some
theorem w_it20:W (itD (.tup [a,b]) (.int 0) μ) Q↔Q (a,μ):=W_some
theorem w_it21:W (itD (.tup [a,b]) (.int 1) μ) Q↔Q (b,μ):=W_some
theorem w_truB {b:Bool}{Q:Bool->Prop}:W (truD μ (.bl b)) Q↔Q b:=W_some
end
theorem w_itL {μ:Hm}{a:Nat}{xs:List D}{i:Int}{d:D}{Q:D×Hm->Prop}(h:μ[a]? = some (.lst xs))(hi:atI xs i=some d):W (itD (.loc a) (.int i) μ) Q↔Q (d,μ):=by
 have:itD (.loc a) (.int i) μ=some (d,μ):=by
  simp only [itD,ixD,seqD,h,Option.bind_some,hi,Option.map_some]
 rw [this]
 exact W_some
end L3
namespace L3
open PySem L2
theorem w_iSeq {m:ME}{ρ:Rho}{μ:Hm}{Q:Src×Nat×Hm->Prop}:W (iSeqD m ρ μ) Q↔W (m ρ μ) fun p=>W (seqS p.2 p.1) fun xs=>Q (srcS p.1,xs.length+1,p.2):=by
 unfold iSeqD
 simp only [W_bind,W_map]
theorem w_mForI {it:MI}{g:MG}{b:MS}{ρ:Rho}{μ:Hm} {Q}:W (mForI it g b ρ μ) Q↔W (it ρ μ) fun p=>W (goFor p.1 g b p.2.1 0 ρ p.2.2) Q:=W_bind
theorem w_iRng1 {j:Int}{ms:MA}{ρ:Rho}{μ:Hm}{Q:Src×Nat×Hm->Prop}:W (iRng1D ms ρ μ) Q↔W (ms ρ μ) fun p=>match p.1 with|[.int j]=>(-(2 ^ 62)<=j/\j<2 ^ 62)/\Q (srcRng 0 j.toNat,j.toNat+1,p.2)|_=>False:=by
 unfold iRng1D
 rw [W_bind]
 constructor<;>exact fun h=>W_mono h fun p q=>by
  obtain ⟨l,μ⟩:=p
  match l,q with
  | [],q=>simpa [W_none] using q
  | [d],q=>
   cases d with
   | int j=>
    first
    | (dsimp only at q;rw [W_ite] at q;split at q
       ·rename_i hb;exact ⟨hb,W_some.mp q⟩
       ·exact (W_none.mp q).elim)
    | (dsimp only;rw [if_pos q.1];exact W_some.mpr q.2)
   | _=>simpa [W_none] using q
  | a::b::l,q=>simpa [W_none] using q
theorem w_goFor {src:Src}{g:MG}{b:MS}{N:Nat}{Q:Fl×Rho×Hm->Prop}(I:Nat->Rho->Hm->Prop)
  (go:∀ i ρ μ,i<N->I i ρ μ->∃ d ρ1,src μ i=some (some d)/\g d ρ μ=some ρ1/\W (b ρ1 μ) fun p=>match p.1 with|.nx=>I (i+1) p.2.1 p.2.2|.ct=>I (i+1) p.2.1 p.2.2|.bk=>Q (.nx,p.2.1,p.2.2)|.rt d=>Q (.rt d,p.2.1,p.2.2))
  (stop:∀ ρ μ,I N ρ μ->src μ N=some none/\Q (.nx,ρ,μ)):∀ (m i:Nat)(ρ:Rho)(μ:Hm),i+m=N->I i ρ μ->W (goFor src g b (m+1) i ρ μ) Q
 | 0,i,ρ,μ,h,hI=>by
  have:i=N:=by omega
  subst this
  obtain ⟨h1,h2⟩:=stop ρ μ hI
  unfold goFor
  rw [h1]
  exact W_some.mpr h2
 | m+1,i,ρ,μ,h,hI=>by
  obtain ⟨d,ρ1,h1,h2,h3⟩:=go i ρ μ (by omega) hI
  unfold goFor
  rw [h1]
  simp only [Option.bind_some,h2]
  rw [W_bind]
  refine W_mono h3 fun p q=>?_
  obtain ⟨fl,ρ2,μ2⟩:=p
  cases fl with
  | nx=>exact w_goFor I go stop m (i+1) ρ2 μ2 (by omega) q
  | ct=>exact w_goFor I go stop m (i+1) ρ2 μ2 (by omega) q
  | bk=>exact W_some.mpr q
  | rt d=>exact W_some.mpr q
theorem w_forR {lo:Int}{n:Nat}{g:MG}{b:MS}{ρ:Rho}{μ:Hm}{Q:Fl×Rho×Hm->Prop}(I:Nat->Rho->Hm->Prop)(h0:I 0 ρ μ)
  (go:∀ (i:Nat) ρ μ,i<n->I i ρ μ->∃ ρ1,g (.int (lo+i)) ρ μ=some ρ1/\W (b ρ1 μ) fun p=>match p.1 with|.nx=>I (i+1) p.2.1 p.2.2|.ct=>I (i+1) p.2.1 p.2.2|.bk=>Q (.nx,p.2.1,p.2.2)|.rt d=>Q (.rt d,p.2.1,p.2.2))
  (stop:∀ ρ μ,I n ρ μ->Q (.nx,ρ,μ)):W (goFor (srcRng lo n) g b (n+1) 0 ρ μ) Q:=by
 refine w_goFor (N:=n) I (fun i ρ μ hi hI=>?_) (fun ρ μ hI=>⟨?_,stop ρ μ hI⟩) n 0 ρ μ (by omega) h0
 ·obtain ⟨ρ1,h1,h2⟩:=go i ρ μ hi hI
  exact ⟨_,ρ1,by simp only [srcRng,if_pos hi],h1,h2⟩
 ·simp only [srcRng,Nat.lt_irrefl,if_false]
theorem appD_at {μ:Hm}{a:Nat}{ys:List D}{y:D}(h:μ[a]? = some (.lst ys))(hl:ys.length<sizeLine):appD μ a y=some (μ.set a (.lst (ys++[y]))):=by
 unfold appD
 rw [h]
 exact if_pos hl
theorem w_goComp {src:Src}{c:MT}{e:ME}{ρ:Rho}{μ0:Hm}{xs:List D}{p:D->Bool}{v:D->D}{Q:Hm->Prop}(hs:∀ μ i,μ0 <+: μ->src μ i=some xs[i]?)(hl:xs.length<=sizeLine)
  (hc:∀ d μ,d∈xs->μ0 <+: μ->W (c (ρ++[some d]) μ) fun r=>r.1=p d/\μ <+: r.2)
  (he:∀ d μ,d∈xs->p d=true->μ0 <+: μ->W (e (ρ++[some d]) μ) fun r=>r.1=v d/\μ <+: r.2)
  (fin:∀ μ,μ0 <+: μ->μ[μ0.length]? = some (.lst ((xs.filter p).map v))->Q μ) :
  ∀ (m i:Nat)(μ:Hm),i+m=xs.length->μ0 <+: μ->μ[μ0.length]? = some (.lst (((xs.take i).filter p).map v))->W (goCompG src bdOne c e ρ μ0.length (m+1) i μ) Q
 | 0,i,μ,hi,hp,ha=>by
  have:i=xs.length:=by omega
  subst this
  unfold goCompG
  rw [hs μ _ hp]
  rw [List.getElem?_eq_none (Nat.le_refl _)]
  simp only [Option.bind_some]
  refine W_some.mpr (fin μ hp ?_)
  simpa using ha
 | m+1,i,μ,hi,hp,ha=>by
  have hlt:i<xs.length:=by omega
  have hx:xs[i]? = some xs[i]:=List.getElem?_eq_getElem hlt
  have hmem:xs[i]∈xs:=List.getElem_mem hlt
  unfold goCompG
  rw [hs μ _ hp,hx]
  simp only [Option.bind_some,bdOne]
  rw [W_bind]
  refine W_mono (hc _ μ hmem hp) fun r q=>?_
  obtain ⟨b,μ1⟩:=r
  obtain ⟨q1,q2⟩:=q
  dsimp only at q1 q2 ⊢
  subst q1
  have htake:xs.take (i+1)=xs.take i++[xs[i]]:=by rw [List.take_succ,hx];rfl
  have ha1:=pre_get q2 ha
  cases hpd:p xs[i] with
  | false=>
   refine w_goComp hs hl hc he fin m (i+1) μ1 (by omega) (hp.trans q2) ?_
   rw [ha1,htake,List.filter_append]
   simp [hpd]
  | true=>
   dsimp only
   rw [W_bind]
   refine W_mono (he _ μ1 hmem hpd (hp.trans q2)) fun r q=>?_
   obtain ⟨y,μ2⟩:=r
   obtain ⟨q3,q4⟩:=q
   dsimp only at q3 q4 ⊢
   subst q3
   have ha2:=pre_get q4 ha1
   have hlen:(((xs.take i).filter p).map v).length<sizeLine:=by
    have h1:=List.length_filter_le p (xs.take i)
    rw [List.length_map]
    rw [List.length_take] at h1
    omega
   rw [appD_at ha2 hlen,Option.bind_some]
   have hp2:μ0 <+: μ2:=(hp.trans q2).trans q4
   refine w_goComp hs hl hc he fin m (i+1) _ (by omega) (pre_set hp2 (Nat.le_refl _) _) ?_
   rw [List.getElem?_set_self (List.getElem?_eq_some_iff.mp ha2).1,htake,List.filter_append]
   simp [hpd]
theorem w_comp {it:MI}{c:MT}{e:ME}{ρ:Rho}{μ:Hm}{xs:List D}{p:D->Bool}{v:D->D}{Q:D×Hm->Prop}
  (hit:W (it ρ μ) fun r=>(∀ μ' i,r.2.2 <+: μ'->r.1 μ' i=some xs[i]?)/\r.2.1=xs.length+1/\xs.length<=sizeLine /\
   (∀ d μ',d∈xs->r.2.2 <+: μ'->W (c (ρ++[some d]) μ') fun s=>s.1=p d/\μ' <+: s.2)/\(∀ d μ',d∈xs->p d=true->r.2.2 <+: μ'->W (e (ρ++[some d]) μ') fun s=>s.1=v d/\μ' <+: s.2) /\
   ∀ μ',r.2.2 <+: μ'->μ'[r.2.2.length]? = some (.lst ((xs.filter p).map v))->Q (.loc r.2.2.length,μ')):W (mCompI it c e ρ μ) Q:=by
 unfold mCompI mCompG
 rw [W_bind]
 refine W_mono hit fun r q=>?_
 obtain ⟨src,n,μ1⟩:=r
 obtain ⟨h1,h2,h3,h4,h5,h6⟩:=q
 dsimp only at h1 h2 h3 h4 h5 h6 ⊢
 subst h2
 rw [W_map]
 exact w_goComp h1 h3 h4 h5 h6 xs.length 0 (μ1++[.lst []]) (by omega) (pre_snoc _ _) (by simp)
theorem src_loc {μ:Hm}{a:Nat}{xs:List D}(h:μ[a]? = some (.lst xs)):∀ μ' i,μ <+: μ'->srcS (.loc a) μ' i=some xs[i]?:=fun μ' i hp=>by
 simp only [srcS,seqS,seqD,pre_get hp h,Option.map_some]
noncomputable def rngD (lo:Int)(n:Nat):List D:=(List.range n).map fun (i:Nat)=>.int (lo+(i:Int))
theorem src_rng {lo:Int}{n:Nat}{μ:Hm}:∀ μ' i,μ <+: μ'->srcRng lo n μ' i=some (rngD lo n)[i]?:=fun μ' i _=>by
 unfold srcRng rngD
 rw [List.getElem?_map]
 by_cases h:i<n
 ·rw [if_pos h,List.getElem?_range h];rfl
 ·rw [if_neg h,List.getElem?_eq_none (by simpa using Nat.not_lt.mp h)];rfl
noncomputable abbrev P (x y:Int):D:=.tup [.int x,.int y]
noncomputable abbrev PP (p:Int×Int):D:=P p.1 p.2
theorem eqs_ints (n:Nat)(μ:Hm):∀ ps qs:List Int,eqs (eqD (n+1) μ) (ps.map D.int) (qs.map D.int)=some (ps == qs)
 | [],[]=>rfl
 | [],_::_=>rfl
 | _::_,[]=>rfl
 | p::ps,q::qs=>by
  rw [List.map_cons,List.map_cons]
  show (eqD (n+1) μ (.int p) (.int q)).bind (fun b=>(eqs (eqD (n+1) μ) (ps.map D.int) (qs.map D.int)).map fun c=>b&&c)=_
  rw [eqs_ints n μ ps qs]
  rfl
theorem w_eqLI {μ:Hm}{a b:Nat}{ps qs:List Int}{ne:Bool}{Q:D×Hm->Prop}(ha:μ[a]? = some (.lst (ps.map D.int)))(hb:μ[b]? = some (.lst (qs.map D.int))):W (eqM ne (.loc a) (.loc b) μ) Q↔Q (.bl (if ne then !(ps == qs) else ps == qs),μ):=by
 have h1:kindD μ (.loc a)=some (.lst (ps.map D.int)):=by simp only [kindD,ha]
 have h2:kindD μ (.loc b)=some (.lst (qs.map D.int)):=by simp only [kindD,hb]
 have:eqD 8 μ (.loc a) (.loc b)=some (ps == qs):=by
  show (kindD μ (.loc a)).bind (fun x=>(kindD μ (.loc b)).bind fun y=>eqKd (eqD 7 μ) x y)=_
  rw [h1,h2]
  exact eqs_ints 6 μ ps qs
 unfold eqM
 rw [this]
 exact W_some
theorem w_addL {μ:Hm}{a b:Nat}{xs ys:List D}{Q:D×Hm->Prop}(ha:μ[a]? = some (.lst xs))(hb:μ[b]? = some (.lst ys))(hl:xs.length+ys.length<=sizeLine):W (addD (.loc a) (.loc b) μ) Q↔Q (.loc μ.length,μ++[.lst (xs++ys)]):=by
 simp only [addD,ha,hb,if_pos hl]
 exact W_some
theorem w_mMeth {f:D->List D->Hm->Option (D×Hm)}{mo:ME}{ms:MA}{ρ:Rho}{μ:Hm}{Q:D×Hm->Prop}(h:W (mo ρ μ) fun p=>isLst p.2 p.1=true/\W (ms ρ p.2) fun q=>W (f p.1 q.1 q.2) Q):W (mMeth f mo ms ρ μ) Q:=by
 unfold mMeth
 rw [W_bind]
 refine W_mono h fun p q=>?_
 rw [q.1]
 exact W_bind.mpr q.2
theorem isLst_loc {μ:Hm}{a:Nat}{xs:List D}(h:μ[a]? = some (.lst xs)):isLst μ (.loc a)=true:=by
 simp only [isLst,h]
theorem w_append {μ:Hm}{a:Nat}{xs:List D}{y:D}{Q:D×Hm->Prop}(h:μ[a]? = some (.lst xs))(hl:xs.length<sizeLine):W (appendM (.loc a) [y] μ) Q↔Q (.non,μ.set a (.lst (xs++[y]))):=by
 simp only [appendM,appD_at h hl,Option.map_some]
 exact W_some
theorem w_instIB {μ:Hm}{i:Int}{Q:D×Hm->Prop}:W (isInst [.int i,.ty "bool"] μ) Q↔Q (.bl false,μ):=W_some
theorem w_instII {μ:Hm}{i:Int}{Q:D×Hm->Prop}:W (isInst [.int i,.ty "int"] μ) Q↔Q (.bl true,μ):=W_some
theorem w_instLL {μ:Hm}{a:Nat}{xs:List D}{Q:D×Hm->Prop}(h:μ[a]? = some (.lst xs)):W (isInst [.loc a,.ty "list"] μ) Q↔Q (.bl true,μ):=by
 have:isInst [.loc a,.ty "list"] μ=some (.bl true,μ):=by
  simp only [isInst,tyD,h,Option.bind_some]
  rfl
 rw [this]
 exact W_some
theorem w_lenL {μ:Hm}{a:Nat}{xs:List D}{Q:D×Hm->Prop}(h:μ[a]? = some (.lst xs)):W (lenA [.loc a] μ) Q↔Q (.int xs.length,μ):=by
 simp only [lenA,lenM,seqD,h,Option.map_some]
 exact W_some
theorem w_lenR {μ:Hm}{xs:List D}{Q:D×Hm->Prop}:W (lenA [.rol xs] μ) Q↔Q (.int xs.length,μ):=W_some
theorem w_seqL {μ:Hm}{a:Nat}{xs:List D}{Q:List D->Prop}(h:μ[a]? = some (.lst xs)):W (seqS μ (.loc a)) Q↔Q xs:=by
 simp only [seqS,seqD,h]
 exact W_some
theorem w_mNoPart {ρ:Rho}{μ:Hm}{Q:Option Int×Hm->Prop}:W (mNoPart ρ μ) Q↔Q (none,μ):=W_some
theorem w_mPart {m:ME}{ρ:Rho}{μ:Hm}{Q:Option Int×Hm->Prop}:W (mPart m ρ μ) Q↔W (m ρ μ) fun p=>match p.1 with|.int i=>Q (some i,p.2)|_=>False:=by
 unfold mPart
 rw [W_bind]
 constructor<;>exact fun h=>W_mono h fun p q=>by
  obtain ⟨d,μ⟩:=p
  cases d<;>simpa [W_some,W_none] using q
theorem w_sliceL {a:ME}{lo hi:MO}{ρ:Rho}{μ:Hm}{Q:D×Hm->Prop}(h:W (a ρ μ) fun p=>∃ l,p.1=.loc l/\W (lo ρ p.2) fun q=>W (hi ρ q.2) fun r=>∃ xs,r.2[l]? = some (.lst xs)/\Q (.loc r.2.length,r.2++[.lst (cutD xs q.1 r.1)])):W (mSlice a lo hi ρ μ) Q:=by
 unfold mSlice
 rw [W_bind]
 refine W_mono h fun p q=>?_
 obtain ⟨d,μ1⟩:=p
 obtain ⟨l,q1,q2⟩:=q
 dsimp only at q1 q2 ⊢
 subst q1
 rw [W_bind]
 refine W_mono q2 fun s q=>?_
 rw [W_bind]
 refine W_mono q fun r q=>?_
 obtain ⟨xs,q3,q4⟩:=q
 simp only [seqD,q3,Option.bind_some]
 exact W_some.mpr q4
theorem get_last (μ:Hm)(c:C):(μ++[c])[μ.length]? = some c:=by simp
end L3
namespace L3
open PySem L2
section
variable {i j:Int}{μ:Hm}{Q:D×Hm->Prop}
theorem w_isnotI {b:Bool}:W (isM true (.int i) (.bl b) μ) Q↔Q (.bl true,μ):=W_some
theorem w_isNN:W (isM false .non .non μ) Q↔Q (.bl true,μ):=W_some
theorem w_isnotNN:W (isM true .non .non μ) Q↔Q (.bl false,μ):=W_some
theorem w_isLN {a:Nat}:W (isM false (.loc a) .non μ) Q↔Q (.bl false,μ):=W_some
theorem w_isnotLN {a:Nat}:W (isM true (.loc a) .non μ) Q↔Q (.bl true,μ):=W_some
theorem w_min:W (minA [.int i,.int j] μ) Q↔Q (.int (min i j),μ):=by
 have:(if j<i then j else i)=min i j:=by split<;>omega
 show W (some (D.int (if j<i then j else i),μ)) Q↔_
 rw [this]
 exact W_some
theorem intsD_map:∀ is:List Int,intsD (is.map D.int)=some is
 | []=>rfl
 | i::is=>by
  show (intsD (is.map D.int)).map (i::·)=_
  rw [intsD_map is];rfl
theorem w_sum {a:Nat}{is:List Int}(h:μ[a]? = some (.lst (is.map D.int))):W (sumM [.loc a] μ) Q↔Q (.int is.sum,μ):=by
 simp only [sumM,seqD,h,Option.bind_some,intsD_map,Option.map_some]
 exact W_some
theorem w_all {a:Nat}{bs:List Bool}(h:μ[a]? = some (.lst (bs.map D.bl))):W (allM [.loc a] μ) Q↔Q (.bl (bs.all id),μ):=by
 have e:∀ bs:List Bool,boolsD (bs.map D.bl)=some bs:=fun bs=>by
  induction bs with
  | nil=>rfl
  | cons b bs ih=>
   show (boolsD (bs.map D.bl)).map (b::·)=_
   rw [ih];rfl
 simp only [allM,seqD,h,Option.bind_some,e,Option.map_some]
 exact W_some
theorem w_list {a:Nat}{xs:List D}(h:μ[a]? = some (.lst xs))(hl:xs.length<=sizeLine):W (listM [.loc a] μ) Q↔Q (.loc μ.length,μ++[.lst xs]):=by
 simp only [listM,seqD,h,Option.bind_some]
 first
 | exact W_some
 | (rw [if_pos hl];exact W_some)
end
theorem w_sliceSL {a:ME}{lo hi st:MO}{ρ:Rho}{μ:Hm}{Q:D×Hm->Prop}(h:W (a ρ μ) fun p=>∃ l,p.1=.loc l/\W (lo ρ p.2) fun q=>W (hi ρ q.2) fun r=>W (st ρ r.2) fun t=>t.1≠some 0/\∃ xs,t.2[l]? = some (.lst xs)/\(pickS xs q.1 r.1 t.1).length<=sizeLine/\Q (.loc t.2.length,t.2++[.lst (pickS xs q.1 r.1 t.1)])):W (mSliceS a lo hi st ρ μ) Q:=by
 unfold mSliceS
 rw [W_bind]
 refine W_mono h fun p q=>?_
 obtain ⟨d,μ1⟩:=p
 obtain ⟨l,q1,q2⟩:=q
 dsimp only at q1 q2 ⊢
 subst q1
 rw [W_bind]
 refine W_mono q2 fun s q=>?_
 rw [W_bind]
 refine W_mono q fun r q=>?_
 rw [W_bind]
 refine W_mono q fun t q=>?_
 obtain ⟨h0,xs,q3,q4,q5⟩:=q
 rw [if_pos h0]
 simp only [lstD,q3,Option.bind_some]
 rw [if_pos q4]
 exact W_some.mpr q5
theorem w_iEnum {ms:MA}{ρ:Rho}{μ:Hm}{Q:Src×Nat×Hm->Prop}(h:W (ms ρ μ) fun p=>∃ a xs,p.1=[.loc a]/\p.2[a]? = some (.lst xs)/\Q (srcEnum (.loc a),xs.length+1,p.2)):W (iEnumD ms ρ μ) Q:=by
 unfold iEnumD
 rw [W_bind]
 refine W_mono h fun p q=>?_
 obtain ⟨l,μ1⟩:=p
 obtain ⟨a,xs,q1,q2,q3⟩:=q
 dsimp only at q1 q2 q3 ⊢
 subst q1
 dsimp only
 simp only [lstD,q2,Option.map_some]
 exact W_some.mpr q3
noncomputable def numD:Nat->List D->List D
 | _,[]=>[]
 | n,d::r=>.tup [.int n,d]::numD (n+1) r
theorem numD_get:∀ (xs:List D)(n i:Nat),(numD n xs)[i]? = (xs[i]?).map fun d=>.tup [.int ((n+i:Nat):Int),d]
 | [],n,i=>by simp [numD]
 | d::r,n,0=>by simp [numD]
 | d::r,n,i+1=>by
  show (numD (n+1) r)[i]? = _
  rw [numD_get r (n+1) i,show n+1+i=n+(i+1) by omega]
  simp
theorem numD_len:∀ (xs:List D)(n:Nat),(numD n xs).length=xs.length
 | [],_=>rfl
 | d::r,n=>by rw [numD,List.length_cons,numD_len r,List.length_cons]
theorem src_enum {μ:Hm}{a:Nat}{xs:List D}(h:μ[a]? = some (.lst xs)):∀ μ' i,μ <+: μ'->srcEnum (.loc a) μ' i=some (numD 0 xs)[i]?:=fun μ' i hp=>by
 simp only [srcEnum,seqD,pre_get hp h,Option.map_some,numD_get]
 congr 3
 simp
theorem w_goCompI {src:Src}{bd:BD}{c:MT}{e:ME}{ρ:Rho}{a N:Nat}{Q:Hm->Prop}(I:Nat->List D->Hm->Prop)(hN:N<=sizeLine)(hlen:∀ i ys μ,I i ys μ->ys.length<=i)
  (go:∀ i ys μ,i<N->I i ys μ->μ[a]? = some (.lst ys)->∃ d x,src μ i=some (some d)/\bd d μ=some x/\W (c (ρ++x) μ) fun r=>(r.1=false->r.2[a]? = some (.lst ys)/\I (i+1) ys r.2) /\
   (r.1=true->W (e (ρ++x) r.2) fun s=>s.2[a]? = some (.lst ys)/\I (i+1) (ys++[s.1]) (s.2.set a (.lst (ys++[s.1])))))
  (stop:∀ ys μ,I N ys μ->μ[a]? = some (.lst ys)->src μ N=some none/\Q μ):∀ (m i:Nat)(ys:List D)(μ:Hm),i+m=N->I i ys μ->μ[a]? = some (.lst ys)->W (goCompG src bd c e ρ a (m+1) i μ) Q
 | 0,i,ys,μ,h,hI,hg=>by
  have:i=N:=by omega
  subst this
  obtain ⟨h1,h2⟩:=stop ys μ hI hg
  unfold goCompG
  rw [h1]
  exact W_some.mpr h2
 | m+1,i,ys,μ,h,hI,hg=>by
  obtain ⟨d,x,h1,h2,h3⟩:=go i ys μ (by omega) hI hg
  unfold goCompG
  rw [h1]
  simp only [Option.bind_some,h2]
  rw [W_bind]
  refine W_mono h3 fun r q=>?_
  obtain ⟨b,μ1⟩:=r
  cases b with
  | false=>
   obtain ⟨q1,q2⟩:=q.1 rfl
   exact w_goCompI I hN hlen go stop m (i+1) ys μ1 (by omega) q2 q1
  | true=>
   dsimp only
   rw [W_bind]
   refine W_mono (q.2 rfl) fun s q=>?_
   obtain ⟨y,μ2⟩:=s
   obtain ⟨q1,q2⟩:=q
   dsimp only at q1 q2 ⊢
   have hl:=hlen i ys μ hI
   rw [appD_at q1 (by omega),Option.bind_some]
   refine w_goCompI I hN hlen go stop m (i+1) _ _ (by omega) q2 ?_
   rw [List.getElem?_set_self (List.getElem?_eq_some_iff.mp q1).1]
theorem w_compI {bd:BD}{it:MI}{c:MT}{e:ME}{ρ:Rho}{μ:Hm}{Q:D×Hm->Prop}
  (hit:W (it ρ μ) fun r=>∃ (N:Nat)(I:Nat->List D->Hm->Prop),r.2.1=N+1/\N<=sizeLine/\(∀ i ys μ,I i ys μ->ys.length<=i)/\I 0 [] (r.2.2++[.lst []]) /\
   (∀ i ys μ,i<N->I i ys μ->μ[r.2.2.length]? = some (.lst ys)->∃ d x,r.1 μ i=some (some d)/\bd d μ=some x/\W (c (ρ++x) μ) fun p=>(p.1=false->p.2[r.2.2.length]? = some (.lst ys)/\I (i+1) ys p.2) /\
    (p.1=true->W (e (ρ++x) p.2) fun s=>s.2[r.2.2.length]? = some (.lst ys)/\I (i+1) (ys++[s.1]) (s.2.set r.2.2.length (.lst (ys++[s.1]))))) /\
   (∀ ys μ,I N ys μ->μ[r.2.2.length]? = some (.lst ys)->r.1 μ N=some none/\Q (.loc r.2.2.length,μ))):W (mCompG bd it c e ρ μ) Q:=by
 unfold mCompG
 rw [W_bind]
 refine W_mono hit fun r q=>?_
 obtain ⟨src,n,μ1⟩:=r
 obtain ⟨N,I,h1,h2,h3,h4,h5,h6⟩:=q
 dsimp only at h1 h2 h3 h4 h5 h6 ⊢
 subst h1
 rw [W_map]
 exact w_goCompI I h2 h3 h5 h6 N 0 [] _ (by omega) h4 (by simp)
theorem w_goCompT {src:Src}{bd:BD}{c:MT}{e:ME}{ρ:Rho}{μ0:Hm}{xs:List D}{x:D->Rho}{p:D->Bool}{v:D->D}{Q:Hm->Prop}(hs:∀ μ i,μ0 <+: μ->src μ i=some xs[i]?)(hl:xs.length<=sizeLine)(hb:∀ d μ,d∈xs->bd d μ=some (x d))
  (hc:∀ d μ,d∈xs->μ0 <+: μ->W (c (ρ++x d) μ) fun r=>r.1=p d/\μ <+: r.2)
  (he:∀ d μ,d∈xs->p d=true->μ0 <+: μ->W (e (ρ++x d) μ) fun r=>r.1=v d/\μ <+: r.2)
  (fin:∀ μ,μ0 <+: μ->μ[μ0.length]? = some (.lst ((xs.filter p).map v))->Q μ):W (goCompG src bd c e ρ μ0.length (xs.length+1) 0 (μ0++[.lst []])) Q:=by
 refine w_goCompI (N:=xs.length) (fun i ys μ=>ys=((xs.take i).filter p).map v/\μ0 <+: μ) hl ?_ ?_ ?_ xs.length 0 [] _ (by omega) ⟨by simp,pre_snoc _ _⟩ (by simp)
 ·rintro i ys μ ⟨rfl,_⟩
  rw [List.length_map]
  refine Nat.le_trans (List.length_filter_le _ _) ?_
  rw [List.length_take];omega
 ·rintro i ys μ hi ⟨rfl,hp⟩ hg
  have hx:xs[i]? = some xs[i]:=List.getElem?_eq_getElem hi
  have hmem:xs[i]∈xs:=List.getElem_mem hi
  have htake:xs.take (i+1)=xs.take i++[xs[i]]:=by rw [List.take_succ,hx];rfl
  refine ⟨xs[i],x xs[i],by rw [hs μ i hp,hx],hb _ _ hmem,W_mono (hc _ μ hmem hp) fun r q=>?_⟩
  obtain ⟨b,μ1⟩:=r
  obtain ⟨q1,q2⟩:=q
  dsimp only at q1 q2 ⊢
  refine ⟨fun hb'=>⟨pre_get q2 hg,?_,hp.trans q2⟩,fun hb'=>?_⟩
  ·rw [htake,List.filter_append]
   rw [hb'] at q1
   simp [<- q1]
  ·rw [hb'] at q1
   refine W_mono (he _ μ1 hmem q1.symm (hp.trans q2)) fun s q=>?_
   obtain ⟨y,μ2⟩:=s
   obtain ⟨q3,q4⟩:=q
   dsimp only at q3 q4 ⊢
   subst q3
   refine ⟨pre_get (q2.trans q4) hg,?_,pre_set ((hp.trans q2).trans q4) (Nat.le_refl _) _⟩
   rw [htake,List.filter_append,List.map_append]
   simp [<- q1]
 ·rintro ys μ ⟨rfl,hp⟩ hg
  refine ⟨by rw [hs μ _ hp];simp,fin μ hp ?_⟩
  rw [List.take_length] at hg
  exact hg
theorem w_compT {bd:BD}{it:MI}{c:MT}{e:ME}{ρ:Rho}{μ:Hm}{xs:List D}{x:D->Rho}{p:D->Bool}{v:D->D}{Q:D×Hm->Prop}
  (hit:W (it ρ μ) fun r=>(∀ μ' i,r.2.2 <+: μ'->r.1 μ' i=some xs[i]?)/\r.2.1=xs.length+1/\xs.length<=sizeLine/\(∀ d μ',d∈xs->bd d μ'=some (x d)) /\
   (∀ d μ',d∈xs->r.2.2 <+: μ'->W (c (ρ++x d) μ') fun s=>s.1=p d/\μ' <+: s.2)/\(∀ d μ',d∈xs->p d=true->r.2.2 <+: μ'->W (e (ρ++x d) μ') fun s=>s.1=v d/\μ' <+: s.2) /\
   ∀ μ',r.2.2 <+: μ'->μ'[r.2.2.length]? = some (.lst ((xs.filter p).map v))->Q (.loc r.2.2.length,μ')):W (mCompG bd it c e ρ μ) Q:=by
 unfold mCompG
 rw [W_bind]
 refine W_mono hit fun r q=>?_
 obtain ⟨src,n,μ1⟩:=r
 obtain ⟨h1,h2,h3,h4,h5,h6,h7⟩:=q
 dsimp only at h1 h2 h3 h4 h5 h6 h7 ⊢
 subst h2
 rw [W_map]
 exact w_goCompT h1 h3 h4 h5 h6 h7
theorem w_mTrue {ρ:Rho}{μ:Hm}{Q:Bool×Hm->Prop}:W (mTrue ρ μ) Q↔Q (true,μ):=W_some
theorem w_mPut {o i v:ME}{ρ:Rho}{μ:Hm} {Q}:W (mPut o i v ρ μ) Q↔W (v ρ μ) fun p=>W (o ρ p.2) fun q=>W (i ρ q.2) fun r=>W (putM q.1 r.1 p.1 r.2) fun μ'=>Q (.nx,ρ,μ'):=by
 unfold mPut mPutG
 simp only [W_bind,W_map]
theorem w_putL {μ:Hm}{a:Nat}{xs:List D}{i:Int}{j:Nat}{d:D}{Q:Hm->Prop}(h:μ[a]? = some (.lst xs))(hi:ixN xs.length i=some j):W (putM (.loc a) (.int i) d μ) Q↔Q (μ.set a (.lst (xs.set j d))):=by
 simp only [putM,putL,h,hi,Option.map_some]
 exact W_some
theorem w_neLI {μ:Hm}{a b:Nat}{ps qs:List Int}{Q:D×Hm->Prop}(ha:μ[a]? = some (.lst (ps.map D.int)))(hb:μ[b]? = some (.lst (qs.map D.int))):W (eqM true (.loc a) (.loc b) μ) Q↔Q (.bl (!(ps == qs)),μ):=w_eqLI ha hb
theorem strsD_map:∀ ss:List Str,strsD (ss.map D.str)=some ss
 | []=>rfl
 | x::ss=>by
  rw [List.map_cons]
  simp only [strsD,strsD_map ss,Option.map_some]
theorem w_sortTx {μ:Hm}{a:Nat}{ss ts:List Str}{Q:D×Hm->Prop}(h:μ[a]? = some (.lst (ss.map D.str)))(h1:2<=ss.length)(hp:ts.Perm ss)(hs:ts.Pairwise fun x y=>ltS x y=true)(hnd:desS ss=false):W (sortedA [.loc a] μ) Q↔Q (.loc μ.length,μ++[.lst (ts.map D.str)]):=by
 have hn:ss.Nodup:=hp.nodup_iff.mp (hs.imp fun {a b} h e=>by rw [e,ltS_ord.ir] at h;cases h)
 have n0:intsD (ss.map D.str)=none:=by
  cases ss with
  | nil=>simp at h1
  | cons=>rfl
 have i0:sortIM [.loc a] μ=none:=by
  simp only [sortIM,lstD,h,Option.bind_some,n0,Option.bind_none]
 have x0:sortedTx [.loc a] μ=some (.loc μ.length,μ++[.lst (ts.map D.str)]):=by
  simp only [sortedTx,lstD,h,Option.bind_some,strsD_map]
  rw [if_pos ⟨h1,hn⟩,sortTx_is hp hs]
 simp only [sortedA,i0,x0]
 exact W_some
theorem w_itSt {z:Str}{i:Int}{c:Nat}{μ:Hm}{Q:D×Hm->Prop}(hz:z.length<=sizeLine)(h:atI z.cps.toList i=some c):W (itD (.str z) (.int i) μ) Q↔Q (.str ⟨#[c]⟩,μ):=by
 have:itD (.str z) (.int i) μ=some (.str ⟨#[c]⟩,μ):=by
  simp only [itD,ixD]
  rw [if_pos hz,h];rfl
 rw [this]
 exact W_some
theorem w_addS {x y:Str}{μ:Hm}{Q:D×Hm->Prop}(h:x.length+y.length<=sizeLine):W (addD (.str x) (.str y) μ) Q↔Q (.str (x++y),μ):=by
 have:addD (.str x) (.str y) μ=some (.str (x++y),μ):=by
  simp only [addD];rw [if_pos h]
 rw [this]
 exact W_some
end L3
namespace Lw
open PySem L2 L3
noncomputable def ds:List (Str×Stmt):=[("is_whole",top 4),("is_good",top 6),("check_round",top 7),("wedges_by",top 9),("is_crimp",top 10),("brought_ahead",top 11),("is_turned_part",top 12),("crimped",top 13),("last_two",top 14),("folded_order",top 15),("rows_of",top 16),("all_marks",top 17),("ways_to_choose",top 18),("least_ahead",top 19),("run_of_least",top 20),("ways_to_fold",top 21),("how_many",top 22),("_law_nth",top 24),("_law_int",top 25),("_law_gaps",top 26),("_law_joined",top 27),("_law_amid",top 28),("_law_folds",top 29),("_law_rows",top 30),("law",top 31)]
noncomputable def S:Sig:=⟨[("is_whole",1),("is_good",1),("check_round",1),("wedges_by",2),("is_crimp",3),("brought_ahead",1),("is_turned_part",1),("crimped",3),("last_two",2),("folded_order",2),("rows_of",1),("all_marks",1),("ways_to_choose",2),("least_ahead",1),("run_of_least",1),("ways_to_fold",1),("how_many",1),("_law_nth",2),("_law_int",1),("_law_gaps",2),("_law_joined",1),("_law_amid",1),("_law_folds",3),("_law_rows",1),("law",1)],[],[],["all","bool","enumerate","int","isinstance","len","list","max","min","range","sorted","sum"],[],[],[]⟩
@[irreducible] noncomputable def f (k:Nat)(x:Str):MF:=fnM S ds k x
end Lw
namespace Lw
open PySem L2 L3
theorem ev_p_is_whole (k:Nat)(d0:D)(μ:Hm):f (k+1) "is_whole" [d0] μ=fin ((mRet (mAndV (mCall isInst (mCons (mVar 0) (mCons (mC (.ty "int")) mNil))) (mNotV (mCall isInst (mCons (mVar 0) (mCons (mC (.ty "bool")) mNil)))))) [some d0] μ):=by
 kernel_rfl
theorem ev_p_is_good (k:Nat)(d0:D)(μ:Hm):f (k+1) "is_good" [d0] μ=fin ((mSeq (mIfS (mOrT (mTest (mOp gtD (mCall lenA (mCons (mVar 0) mNil)) (mC (.int 8)))) (mTest (mOp (eqM false) (mOp modD (mCall lenA (mCons (mVar 0) mNil)) (mC (.int 2))) (mC (.int 1))))) (mRet (mC (.bl false))) mNext) (mSeq (mIfS (mNotT (mTru (mCall allM (mCons (mCompI (iSeqD (mVar 0)) mTrue (mAndV (mCall (f k "is_whole") (mCons (mVar 1) mNil)) (mOp geD (mVar 1) (mC (.int 1))))) mNil)))) (mRet (mC (.bl false))) mNext) (mRet (mOp (eqM false) (mCall sumM (mCons (mSliceS (mVar 0) mNoPart mNoPart (mPart (mC (.int 2)))) mNil)) (mCall sumM (mCons (mSliceS (mVar 0) (mPart (mC (.int 1))) mNoPart (mPart (mC (.int 2)))) mNil)))))) [some d0] μ):=by
 kernel_rfl
theorem ev_p_check_round (k:Nat)(d0:D)(μ:Hm):f (k+1) "check_round" [d0] μ=fin ((mIfS (mOrT (mTest (mOp ltD (mCall lenA (mCons (mVar 0) mNil)) (mC (.int 2)))) (mNotT (mTru (mCall (f k "is_good") (mCons (mVar 0) mNil))))) mBadS mNext) [some d0] μ):=by
 kernel_rfl
theorem ev_p_wedges_by (k:Nat)(d0 d1:D)(μ:Hm):f (k+1) "wedges_by" [d0,d1] μ=fin ((mRet (mCompG (bdTup 2) (iEnumD (mCons (mVar 0) mNil)) mTrue (mTup (mCons (mVar 3) (mCons (mOp itD (mVar 1) (mVar 2)) (mCons (mLst (mCons (mVar 2) mNil)) mNil)))))) [some d0,some d1] μ):=by
 kernel_rfl
theorem ev_p_is_crimp (k:Nat)(d0 d1 d2:D)(μ:Hm):f (k+1) "is_crimp" [d0,d1,d2] μ=fin ((mRet (mAndV (mOp leD (mOp itD (mVar 1) (mC (.int 0))) (mOp itD (mVar 0) (mC (.int 0)))) (mAndV (mOp leD (mOp itD (mVar 1) (mC (.int 0))) (mOp itD (mVar 2) (mC (.int 0)))) (mOp (eqM true) (mOp itD (mVar 1) (mC (.int 1))) (mOp itD (mVar 2) (mC (.int 1))))))) [some d0,some d1,some d2] μ):=by
 kernel_rfl
theorem ev_p_brought_ahead (k:Nat)(d0:D)(μ:Hm):f (k+1) "brought_ahead" [d0] μ=fin ((mSeq (mForI (iRng1D (mCons (mCall lenA (mCons (mVar 0) mNil)) mNil)) (gSet 1) (mSeq (mSet 2 (mOp addD (mSlice (mVar 0) (mPart (mVar 1)) mNoPart) (mSlice (mVar 0) mNoPart (mPart (mVar 1))))) (mIfS (mTru (mCall (f k "is_crimp") (mCons (mOp itD (mVar 2) (mC (.int 0))) (mCons (mOp itD (mVar 2) (mC (.int 1))) (mCons (mOp itD (mVar 2) (mC (.int 2))) mNil))))) (mRet (mVar 2)) mNext))) (mRet (mC .non))) [some d0,none,none] μ):=by
 kernel_rfl
theorem ev_p_is_turned_part (k:Nat)(d0:D)(μ:Hm):f (k+1) "is_turned_part" [d0] μ=fin ((mRet (mOp (eqM false) (mOp modD (mOp itD (mOp itD (mVar 0) (mC (.int 2))) (mC (.int 0))) (mC (.int 2))) (mC (.int 1)))) [some d0] μ):=by
 kernel_rfl
theorem ev_p_crimped (k:Nat)(d0 d1 d2:D)(μ:Hm):f (k+1) "crimped" [d0,d1,d2] μ=fin ((mSeq (mSet 3 (mOp addD (mOp subD (mOp itD (mVar 0) (mC (.int 0))) (mOp itD (mVar 1) (mC (.int 0)))) (mOp itD (mVar 2) (mC (.int 0))))) (mSeq (mIfS (mTest (mOp (eqM false) (mOp (eqM false) (mOp itD (mVar 1) (mC (.int 1))) (mC (.str "v"))) (mCall (f k "is_turned_part") (mCons (mVar 1) mNil)))) (mRet (mTup (mCons (mVar 3) (mCons (mOp itD (mVar 0) (mC (.int 1))) (mCons (mOp addD (mOp addD (mOp itD (mVar 0) (mC (.int 2))) (mOp itD (mVar 1) (mC (.int 2)))) (mOp itD (mVar 2) (mC (.int 2)))) mNil))))) mNext) (mRet (mTup (mCons (mVar 3) (mCons (mOp itD (mVar 0) (mC (.int 1))) (mCons (mOp addD (mOp addD (mOp itD (mVar 2) (mC (.int 2))) (mOp itD (mVar 1) (mC (.int 2)))) (mOp itD (mVar 0) (mC (.int 2)))) mNil))))))) [some d0,some d1,some d2,none] μ):=by
 kernel_rfl
theorem ev_p_last_two (k:Nat)(d0 d1:D)(μ:Hm):f (k+1) "last_two" [d0,d1] μ=fin ((mSeq (mIfS (mTest (mOp (eqM true) (mOp itD (mVar 0) (mC (.int 1))) (mOp itD (mVar 1) (mC (.int 1))))) (mRet (mC .non)) mNext) (mSeq (mIfS (mTest (mOp (eqM false) (mOp (eqM false) (mOp itD (mVar 0) (mC (.int 1))) (mC (.str "v"))) (mCall (f k "is_turned_part") (mCons (mVar 0) mNil)))) (mRet (mOp addD (mOp itD (mVar 1) (mC (.int 2))) (mOp itD (mVar 0) (mC (.int 2))))) mNext) (mRet (mOp addD (mOp itD (mVar 0) (mC (.int 2))) (mOp itD (mVar 1) (mC (.int 2))))))) [some d0,some d1] μ):=by
 kernel_rfl
theorem ev_p_folded_order (k:Nat)(d0 d1:D)(μ:Hm):f (k+1) "folded_order" [d0,d1] μ=fin ((mSeq (mSet 2 (mCall (f k "wedges_by") (mCons (mVar 0) (mCons (mVar 1) mNil)))) (mSeq (mWhile wFuel (mTest (mOp gtD (mCall lenA (mCons (mVar 2) mNil)) (mC (.int 2)))) (mSeq (mSet 3 (mCall (f k "brought_ahead") (mCons (mVar 2) mNil))) (mSeq (mIfS (mTest (mOp (isM false) (mVar 3) (mC .non))) (mRet (mC .non)) mNext) (mSet 2 (mOp addD (mLst (mCons (mCall (f k "crimped") (mCons (mOp itD (mVar 3) (mC (.int 0))) (mCons (mOp itD (mVar 3) (mC (.int 1))) (mCons (mOp itD (mVar 3) (mC (.int 2))) mNil)))) mNil)) (mSlice (mVar 3) (mPart (mC (.int 3))) mNoPart)))))) (mRet (mCall (f k "last_two") (mCons (mOp itD (mVar 2) (mC (.int 0))) (mCons (mOp itD (mVar 2) (mC (.int 1))) mNil)))))) [some d0,some d1,none,none] μ):=by
 kernel_rfl
theorem ev_p_rows_of (k:Nat)(d0:D)(μ:Hm):f (k+1) "rows_of" [d0] μ=fin ((mSeq (mSet 1 (mLst (mCons (mC (.str "")) mNil))) (mSeq (mForI (iRng1D (mCons (mVar 0) mNil)) (gSet 2) (mSet 1 (mOp addD (mCompI (iSeqD (mVar 1)) mTrue (mOp addD (mC (.str "h")) (mVar 3))) (mCompI (iSeqD (mVar 1)) mTrue (mOp addD (mC (.str "v")) (mVar 3)))))) (mRet (mVar 1)))) [some d0,none,none] μ):=by
 kernel_rfl
theorem ev_p_all_marks (k:Nat)(d0:D)(μ:Hm):f (k+1) "all_marks" [d0] μ=fin ((mSeq (mDrop (mCall (f k "check_round") (mCons (mVar 0) mNil))) (mRet (mCompI (iSeqD (mCall (f k "rows_of") (mCons (mCall lenA (mCons (mVar 0) mNil)) mNil))) (mTest (mOp (isM true) (mCall (f k "folded_order") (mCons (mVar 0) (mCons (mVar 1) mNil))) (mC .non))) (mVar 1)))) [some d0] μ):=by
 kernel_rfl
theorem ev_p_ways_to_choose (k:Nat)(d0 d1:D)(μ:Hm):f (k+1) "ways_to_choose" [d0,d1] μ=fin ((mSeq (mSet 2 (mC (.int 1))) (mSeq (mForI (iRng1D (mCons (mVar 0) mNil)) (gSet 3) (mSet 2 (mOp fdivD (mOp mulD (mVar 2) (mOp subD (mVar 1) (mVar 3))) (mOp addD (mVar 3) (mC (.int 1)))))) (mRet (mVar 2)))) [some d0,some d1,none,none] μ):=by
 kernel_rfl
theorem ev_p_least_ahead (k:Nat)(d0:D)(μ:Hm):f (k+1) "least_ahead" [d0] μ=fin ((mSeq (mSet 1 (mCall minA (mCons (mVar 0) mNil))) (mSeq (mSet 2 (mOp itD (mCompG (bdTup 2) (iEnumD (mCons (mVar 0) mNil)) (mAndT (mTest (mOp (eqM false) (mVar 4) (mVar 1))) (mTest (mOp gtD (mOp itD (mVar 0) (mOp subD (mVar 3) (mC (.int 1)))) (mVar 1)))) (mVar 3)) (mC (.int 0)))) (mRet (mOp addD (mSlice (mVar 0) (mPart (mVar 2)) mNoPart) (mSlice (mVar 0) mNoPart (mPart (mVar 2))))))) [some d0,none,none] μ):=by
 kernel_rfl
theorem ev_p_run_of_least (k:Nat)(d0:D)(μ:Hm):f (k+1) "run_of_least" [d0] μ=fin ((mSeq (mSet 1 (mC (.int 1))) (mSeq (mWhile wFuel (mTest (mOp (eqM false) (mOp itD (mVar 0) (mVar 1)) (mOp itD (mVar 0) (mC (.int 0))))) (mSet 1 (mOp addD (mVar 1) (mC (.int 1))))) (mRet (mVar 1)))) [some d0,none] μ):=by
 kernel_rfl
theorem ev_p_ways_to_fold (k:Nat)(d0:D)(μ:Hm):f (k+1) "ways_to_fold" [d0] μ=fin ((mSeq (mIfS (mTest (mOp (eqM false) (mCall minA (mCons (mVar 0) mNil)) (mCall maxA (mCons (mVar 0) mNil)))) (mRet (mOp mulD (mC (.int 2)) (mCall (f k "ways_to_choose") (mCons (mOp subD (mOp fdivD (mCall lenA (mCons (mVar 0) mNil)) (mC (.int 2))) (mC (.int 1))) (mCons (mCall lenA (mCons (mVar 0) mNil)) mNil))))) mNext) (mSeq (mSet 1 (mCall (f k "least_ahead") (mCons (mVar 0) mNil))) (mSeq (mSet 2 (mCall (f k "run_of_least") (mCons (mVar 1) mNil))) (mSeq (mSet 3 (mCall (f k "ways_to_choose") (mCons (mOp fdivD (mOp addD (mVar 2) (mC (.int 1))) (mC (.int 2))) (mCons (mOp addD (mVar 2) (mC (.int 1))) mNil)))) (mSeq (mIfS (mTest (mOp (eqM false) (mOp modD (mVar 2) (mC (.int 2))) (mC (.int 0)))) (mRet (mOp mulD (mVar 3) (mCall (f k "ways_to_fold") (mCons (mSlice (mVar 1) (mPart (mVar 2)) mNoPart) mNil)))) mNext) (mSeq (mSet 4 (mOp subD (mOp addD (mOp itD (mVar 1) (mNeg (mC (.int 1)))) (mOp itD (mVar 1) (mVar 2))) (mOp itD (mVar 1) (mC (.int 0))))) (mRet (mOp mulD (mVar 3) (mCall (f k "ways_to_fold") (mCons (mOp addD (mSlice (mVar 1) (mPart (mOp addD (mVar 2) (mC (.int 1)))) (mPart (mNeg (mC (.int 1))))) (mLst (mCons (mVar 4) mNil))) mNil)))))))))) [some d0,none,none,none,none] μ):=by
 kernel_rfl
theorem ev_p_how_many (k:Nat)(d0:D)(μ:Hm):f (k+1) "how_many" [d0] μ=fin ((mSeq (mDrop (mCall (f k "check_round") (mCons (mVar 0) mNil))) (mRet (mCall (f k "ways_to_fold") (mCons (mVar 0) mNil)))) [some d0] μ):=by
 kernel_rfl
theorem ev_w_nth (k:Nat)(d0 d1:D)(μ:Hm):f (k+1) "_law_nth" [d0,d1] μ=fin ((mRet (mIfE (mTest (mOp ltD (mVar 1) (mCall lenA (mCons (mVar 0) mNil)))) (mOp itD (mVar 0) (mVar 1)) (mC (.int 0)))) [some d0,some d1] μ):=by
 kernel_rfl
theorem ev_w_int (k:Nat)(d0:D)(μ:Hm):f (k+1) "_law_int" [d0] μ=fin ((mRet (mAndV (mCall isInst (mCons (mVar 0) (mCons (mC (.ty "int")) mNil))) (mAndV (mOp (isM true) (mVar 0) (mC (.bl true))) (mOp (isM true) (mVar 0) (mC (.bl false)))))) [some d0] μ):=by
 kernel_rfl
theorem ev_w_gaps (k:Nat)(d0 d1:D)(μ:Hm):f (k+1) "_law_gaps" [d0,d1] μ=fin ((mSeq (mSet 2 (mCall (f k "_law_nth") (mCons (mVar 0) (mCons (mVar 1) mNil)))) (mSeq (mIfS (mTest (mOp (eqM false) (mOp modD (mOp fdivD (mVar 2) (mC (.int 640))) (mC (.int 8))) (mC (.int 1)))) (mSeq (mSet 3 (mOp addD (mC (.int 1)) (mOp modD (mOp mulD (mCall (f k "_law_nth") (mCons (mVar 0) (mCons (mOp addD (mVar 1) (mC (.int 1))) mNil))) (mOp powD (mC (.int 982451653)) (mC (.int 7)))) (mOp subD (mOp powD (mC (.int 10)) (mC (.int 60))) (mC (.int 99)))))) (mSeq (mSet 4 (mOp addD (mC (.int 1)) (mOp modD (mOp mulD (mCall (f k "_law_nth") (mCons (mVar 0) (mCons (mOp addD (mVar 1) (mC (.int 2))) mNil))) (mOp powD (mC (.int 982451653)) (mC (.int 7)))) (mOp subD (mOp powD (mC (.int 10)) (mC (.int 60))) (mC (.int 99)))))) (mRet (mOp itD (mLst (mCons (mLst (mCons (mVar 3) (mCons (mVar 3) mNil))) (mCons (mLst (mCons (mVar 3) (mCons (mVar 4) (mCons (mVar 4) (mCons (mVar 3) mNil))))) mNil))) (mOp modD (mOp fdivD (mVar 2) (mC (.int 5120))) (mC (.int 2))))))) mNext) (mSeq (mSet 5 (mOp itD (mLst (mCons (mC (.int 1)) (mCons (mC (.int 2)) (mCons (mC (.int 2)) (mCons (mC (.int 3)) (mCons (mC (.int 3)) (mCons (mC (.int 4)) (mCons (mC (.int 2)) (mCons (mC (.int 3)) mNil))))))))) (mOp modD (mVar 2) (mC (.int 8))))) (mSeq (mSet 6 (mOp itD (mLst (mCons (mC (.int 1)) (mCons (mC (.int 2)) (mCons (mC (.int 3)) (mCons (mC (.int 9)) (mCons (mOp powD (mC (.int 10)) (mC (.int 59))) mNil)))))) (mOp modD (mOp fdivD (mVar 2) (mC (.int 8))) (mC (.int 5))))) (mSeq (mSet 7 (mCompI (iRng1D (mCons (mOp mulD (mC (.int 2)) (mVar 5)) mNil)) mTrue (mOp addD (mC (.int 1)) (mOp modD (mOp mulD (mCall (f k "_law_nth") (mCons (mVar 0) (mCons (mOp addD (mOp addD (mVar 1) (mC (.int 1))) (mVar 10)) mNil))) (mOp powD (mC (.int 982451653)) (mC (.int 6)))) (mVar 6))))) (mSeq (mSet 8 (mCall sumM (mCons (mCompI (iRng1D (mCons (mVar 5) mNil)) mTrue (mOp subD (mOp itD (mVar 7) (mOp mulD (mC (.int 2)) (mVar 10))) (mOp itD (mVar 7) (mOp addD (mOp mulD (mC (.int 2)) (mVar 10)) (mC (.int 1)))))) mNil))) (mSeq (mSet 9 (mOp mulD (mOp modD (mOp fdivD (mVar 2) (mC (.int 40))) (mVar 5)) (mC (.int 2)))) (mSeq (mIfS (mTest (mOp ltD (mVar 8) (mC (.int 0)))) (mPut (mVar 7) (mVar 9) (mOp subD (mOp itD (mVar 7) (mVar 9)) (mVar 8))) (mPut (mVar 7) (mOp addD (mVar 9) (mC (.int 1))) (mOp addD (mOp itD (mVar 7) (mOp addD (mVar 9) (mC (.int 1)))) (mVar 8)))) (mRet (mVar 7)))))))))) [some d0,some d1,none,none,none,none,none,none,none,none] μ):=by
 kernel_rfl
theorem ev_w_joined (k:Nat)(d0:D)(μ:Hm):f (k+1) "_law_joined" [d0] μ=fin ((mRet (mOp addD (mLst (mCons (mTup (mCons (mOp subD (mOp addD (mOp itD (mOp itD (mVar 0) (mC (.int 0))) (mC (.int 0))) (mOp itD (mOp itD (mVar 0) (mC (.int 2))) (mC (.int 0)))) (mOp itD (mOp itD (mVar 0) (mC (.int 1))) (mC (.int 0)))) (mCons (mOp itD (mOp itD (mVar 0) (mC (.int 0))) (mC (.int 1))) mNil))) mNil)) (mSlice (mVar 0) (mPart (mC (.int 3))) mNoPart))) [some d0] μ):=by
 kernel_rfl
theorem ev_w_amid (k:Nat)(d0:D)(μ:Hm):f (k+1) "_law_amid" [d0] μ=fin ((mSeq (mSet 1 (mLst mNil)) (mSeq (mForI (iRng1D (mCons (mCall lenA (mCons (mVar 0) mNil)) mNil)) (gSet 2) (mIfS (mTest (mOp leD (mOp itD (mOp itD (mVar 0) (mVar 2)) (mC (.int 0))) (mCall minA (mCons (mOp itD (mOp itD (mVar 0) (mOp subD (mVar 2) (mC (.int 1)))) (mC (.int 0))) (mCons (mOp itD (mOp itD (mVar 0) (mOp modD (mOp addD (mVar 2) (mC (.int 1))) (mCall lenA (mCons (mVar 0) mNil)))) (mC (.int 0))) mNil))))) (mDrop (mMeth appendM (mVar 1) (mCons (mVar 2) mNil))) mNext)) (mRet (mVar 1)))) [some d0,none,none] μ):=by
 kernel_rfl
theorem ev_w_folds (k:Nat)(d0 d1 d2:D)(μ:Hm):f (k+1) "_law_folds" [d0,d1,d2] μ=fin ((mSeq (mSet 4 (mCompG (bdTup 2) (iEnumD (mCons (mVar 0) mNil)) mTrue (mTup (mCons (mVar 7) (mCons (mVar 6) mNil))))) (mSeq (mWhile wFuel (mTest (mOp gtD (mCall lenA (mCons (mVar 4) mNil)) (mC (.int 2)))) (mSeq (mSet 5 (mCompI (iSeqD (mCall (f k "_law_amid") (mCons (mVar 4) mNil))) (mTest (mOp (eqM true) (mOp itD (mVar 1) (mOp itD (mOp itD (mVar 4) (mVar 6)) (mC (.int 1)))) (mOp itD (mVar 1) (mOp itD (mOp itD (mVar 4) (mOp modD (mOp addD (mVar 6) (mC (.int 1))) (mCall lenA (mCons (mVar 4) mNil)))) (mC (.int 1)))))) (mVar 6))) (mSeq (mIfS (mTest (mOp (eqM false) (mVar 5) (mLst mNil))) (mRet (mC (.bl false))) mNext) (mSeq (mSet 3 (mOp itD (mVar 5) (mOp modD (mVar 2) (mCall lenA (mCons (mVar 5) mNil))))) (mSeq (mSet 2 (mOp fdivD (mVar 2) (mC (.int 8)))) (mSet 4 (mCall (f k "_law_joined") (mCons (mOp addD (mSlice (mVar 4) (mPart (mOp subD (mVar 3) (mC (.int 1)))) mNoPart) (mSlice (mVar 4) mNoPart (mPart (mOp subD (mVar 3) (mC (.int 1)))))) mNil)))))))) (mRet (mOp (eqM false) (mOp itD (mVar 1) (mOp itD (mOp itD (mVar 4) (mC (.int 0))) (mC (.int 1)))) (mOp itD (mVar 1) (mOp itD (mOp itD (mVar 4) (mC (.int 1))) (mC (.int 1)))))))) [some d0,some d1,some d2,none,none,none] μ):=by
 kernel_rfl
theorem ev_w_rows (k:Nat)(d0:D)(μ:Hm):f (k+1) "_law_rows" [d0] μ=fin ((mSeq (mSet 1 (mLst (mCons (mC (.str "")) mNil))) (mSeq (mForI (iRng1D (mCons (mVar 0) mNil)) (gSet 2) (mSet 1 (mOp addD (mCompI (iSeqD (mVar 1)) mTrue (mOp addD (mVar 3) (mC (.str "h")))) (mCompI (iSeqD (mVar 1)) mTrue (mOp addD (mVar 3) (mC (.str "v"))))))) (mRet (mCall sortedA (mCons (mVar 1) mNil))))) [some d0,none,none] μ):=by
 kernel_rfl
theorem ev_p_law (k:Nat)(d0:D)(μ:Hm):f (k+1) "law" [d0] μ=fin ((mSeq (mSet 1 (mCall (f k "_law_gaps") (mCons (mVar 0) (mCons (mC (.int 0)) mNil)))) (mSeq (mSet 2 (mCall listM (mCons (mVar 1) mNil))) (mSeq (mSet 3 (mCompI (iSeqD (mCall (f k "_law_rows") (mCons (mCall lenA (mCons (mVar 1) mNil)) mNil))) (mTru (mCall (f k "_law_folds") (mCons (mVar 1) (mCons (mVar 6) (mCons (mC (.int 0)) mNil))))) (mVar 6))) (mSeq (mSet 4 (mCall (f k "all_marks") (mCons (mVar 2) mNil))) (mSeq (mIfS (mOrT (mNotT (mTru (mCall isInst (mCons (mVar 4) (mCons (mC (.ty "list")) mNil))))) (mOrT (mTest (mOp (eqM true) (mVar 4) (mVar 3))) (mTest (mOp (eqM true) (mVar 2) (mVar 1))))) (mRet (mC (.bl false))) mNext) (mSeq (mSet 5 (mCall (f k "how_many") (mCons (mVar 2) mNil))) (mSeq (mIfS (mOrT (mNotT (mTru (mCall (f k "_law_int") (mCons (mVar 5) mNil)))) (mOrT (mTest (mOp (eqM true) (mVar 5) (mCall lenA (mCons (mVar 3) mNil)))) (mTest (mOp (eqM true) (mVar 2) (mVar 1))))) (mRet (mC (.bl false))) mNext) (mSeq (mDrop (mMeth appendM (mVar 4) (mCons (mC (.str "hh")) mNil))) (mSeq (mPut (mVar 4) (mC (.int 0)) (mC (.str "x"))) (mRet (mOp (eqM false) (mCall (f k "all_marks") (mCons (mVar 2) mNil)) (mVar 3)))))))))))) [some d0,none,none,none,none,none] μ):=by
 kernel_rfl
end Lw
namespace Lw
open PySem L2 L3
theorem w_mul2 {z:Int}{μ:Hm}{Q:D×Hm->Prop}:W (mulD (.int 2) (.int z) μ) Q↔Q (.int (2 * z),μ):=w_mulI (.inl ⟨by decide,by decide⟩)
theorem w_mod2 {z:Int}{μ:Hm}{Q:D×Hm->Prop}:W (modD (.int z) (.int 2) μ) Q↔Q (.int (z % 2),μ):=w_modI (by decide)
theorem line2:(2:Nat)<=sizeLine:=by decide
theorem len2 {a b:D}:([a,b]:List D).length<=sizeLine:=line2
theorem line1:(1:Nat)<=sizeLine:=by decide
theorem len1 {a:D}:([a]:List D).length<=sizeLine:=line1
theorem w_mulR2 {z:Int}{μ:Hm}{Q:D×Hm->Prop}:W (mulD (.int z) (.int 2) μ) Q↔Q (.int (z * 2),μ):=w_mulI (.inr ⟨by decide,by decide⟩)
theorem w_div8 {z:Int}{μ:Hm}{Q:D×Hm->Prop}:W (fdivD (.int z) (.int 8) μ) Q↔Q (.int (z / 8),μ):=w_fdivI (by decide) (by decide)
noncomputable def unI:D->Int
 | .int i=>i
 | _=>0
theorem mem_rng {lo:Int}{n:Nat}{d:D}(h:d∈rngD lo n):∃ j:Nat,j<n/\d=.int (lo+(j:Int)):=by
 unfold rngD at h
 obtain ⟨j,h1,rfl⟩:=List.mem_map.mp h
 exact ⟨j,List.mem_range.mp h1,rfl⟩
theorem ix_ok {n:Nat}{i:Int}(h0:0<=i)(h:i<n):ixN n i=some i.toNat:=by
 unfold ixN;rw [if_pos h0,if_pos h]
theorem at_ok {gs:List Int}{i:Int}(h0:0<=i)(h:i<gs.length):atI (gs.map D.int) i=some (.int (gs.getD i.toNat 0)):=by
 unfold atI
 rw [List.length_map,ix_ok h0 h,Option.bind_some,List.getElem?_map]
 have hi:i.toNat<gs.length:=by omega
 simp [List.getD,hi]
theorem w_itR {xs:List D}{i:Int}{d:D}{μ:Hm}{Q:D×Hm->Prop}(h:atI xs i=some d):W (itD (.rol xs) (.int i) μ) Q↔Q (d,μ):=by
 have:itD (.rol xs) (.int i) μ=some (d,μ):=by
  simp only [itD,ixD,seqD,Option.bind_some,h,Option.map_some]
 rw [this]
 exact W_some
noncomputable def cellZ (ns:List Int)(i:Int):Int:=ns.getD i.toNat 0
theorem s_nth (k:Nat)(ns:List Int)(i:Int)(hi:0<=i)(μ:Hm)(Q:D×Hm->Prop):W (f (k+1) "_law_nth" [.rol (ns.map D.int),.int i] μ) Q↔Q (.int (cellZ ns i),μ):=by
 rw [ev_w_nth,W_fin]
 simp only [w_mRet,w_mIfE,w_mTest,w_mOp,w_mCall,w_mCons,w_mNil,w_mVar0,w_mVarS,w_mC,w_lenR,w_ltI,List.length_map]
 by_cases h:i<ns.length
 ·simp only [h,decide_true,if_true]
  rw [w_itR (at_ok hi h)]
  rfl
 ·have e:cellZ ns i=0:=by
   unfold cellZ
   have:ns.length<=i.toNat:=by omega
   simp [List.getD,List.getElem?_eq_none this]
  simp only [h,decide_false,Bool.false_eq_true,if_false,e]
theorem cell_bits {ns:List Int}(hb:∀ m∈ns,Builtin.Int.intBits m<=2 ^ 20)(i:Int):Builtin.Int.intBits (cellZ ns i)<=2 ^ 20:=by
 unfold cellZ
 by_cases h:i.toNat<ns.length
 ·have e:ns.getD i.toNat 0=ns[i.toNat]:=by simp [List.getD,h]
  rw [e]
  exact hb _ (List.getElem_mem h)
 ·have e:ns.getD i.toNat 0=0:=by simp [List.getD,List.getElem?_eq_none (Nat.not_lt.mp h)]
  rw [e]
  decide
noncomputable def c7:Int:=982451653 ^ 7
noncomputable def c6:Int:=982451653 ^ 6
noncomputable def p60:Int:=10 ^ 60
noncomputable def p59:Int:=10 ^ 59
theorem w_c7 {μ:Hm}{Q:D×Hm->Prop}:W (powD (.int 982451653) (.int 7) μ) Q↔Q (.int c7,μ):=w_powI (by decide)
theorem w_c6 {μ:Hm}{Q:D×Hm->Prop}:W (powD (.int 982451653) (.int 6) μ) Q↔Q (.int c6,μ):=w_powI (by decide)
theorem w_p60 {μ:Hm}{Q:D×Hm->Prop}:W (powD (.int 10) (.int 60) μ) Q↔Q (.int p60,μ):=w_powI (by decide)
theorem w_p59' {μ:Hm}{Q:D×Hm->Prop}:W (powD (.int 10) (.int 59) μ) Q↔Q (.int p59,μ):=w_powI (by decide)
theorem c7_bits:Builtin.Int.intBits c7<=1000:=by decide +kernel
theorem c6_bits:Builtin.Int.intBits c6<=1000:=by decide +kernel
theorem p60_pos:(0:Int)<p60 - 99:=by decide +kernel
theorem p59_pos:(1:Int)<=p59:=by decide +kernel
theorem w_mulc7 {ns:List Int}(hb:∀ m∈ns,Builtin.Int.intBits m<=2 ^ 20){i:Int}{μ:Hm}{Q:D×Hm->Prop}:W (mulD (.int (cellZ ns i)) (.int c7) μ) Q↔Q (.int (cellZ ns i * c7),μ):=
 w_mulC (by have:=cell_bits hb i;have:=c7_bits;omega)
theorem w_mulc6 {ns:List Int}(hb:∀ m∈ns,Builtin.Int.intBits m<=2 ^ 20){i:Int}{μ:Hm}{Q:D×Hm->Prop}:W (mulD (.int (cellZ ns i)) (.int c6) μ) Q↔Q (.int (cellZ ns i * c6),μ):=
 w_mulC (by have:=cell_bits hb i;have:=c6_bits;omega)
noncomputable def altSum:List Int->Int
 | []=>0
 | g::r=>g - altSum r
structure GoodG (gs:List Int):Prop where
 len:gs.length=2\/gs.length=4\/gs.length=6\/gs.length=8
 pos:∀ g∈gs,1<=g
 alt:altSum gs=0
theorem GoodG.rgl {gs:List Int}(h:GoodG gs):2<=gs.length/\gs.length<=8:=by have:=h.len;omega
theorem altSum_set:∀ (l:List Int)(i:Nat)(v:Int),i<l.length->altSum (l.set i v)=altSum l+(if i % 2=0 then v - l.getD i 0 else l.getD i 0 - v)
 | [],i,v,h=>absurd h (Nat.not_lt_zero _)
 | g::r,0,v,h=>by
  simp only [List.set_cons_zero,altSum,List.getD_cons_zero]
  rw [if_pos trivial]
  omega
 | g::r,i+1,v,h=>by
  have ih:=altSum_set r i v (by simpa using h)
  simp only [List.set_cons_succ,altSum,List.getD_cons_succ,ih]
  by_cases e:i % 2=0
  ·rw [if_pos e,if_neg (by omega)];omega
  ·rw [if_neg e,if_pos (by omega)];omega
theorem altSum_pairs:∀ (h:Nat)(l:List Int),l.length=2 * h->((List.range h).map fun k=>l.getD (2 * k) 0 - l.getD (2 * k+1) 0).sum=altSum l
 | 0,l,hl=>by
  have:l=[]:=List.length_eq_zero_iff.mp (by omega)
  subst this
  rfl
 | h+1,l,hl=>by
  match l,hl with
  | a::b::r,hl=>
   have ih:=altSum_pairs h r (by simp at hl;omega)
   rw [List.range_succ_eq_map,List.map_cons,List.map_map,List.sum_cons]
   have e:((fun k=>(a::b::r).getD (2 * k) 0 - (a::b::r).getD (2 * k+1) 0) ∘ Nat.succ)=fun k=>r.getD (2 * k) 0 - r.getD (2 * k+1) 0:=by
    funext k
    show (a::b::r).getD (2 * (k+1)) 0 - (a::b::r).getD (2 * (k+1)+1) 0=_
    rw [show 2 * (k+1)=2 * k+1+1 by omega,show 2 * k+1+1+1=(2 * k+1)+1+1 by omega]
    simp only [List.getD_cons_succ]
   rw [e,ih]
   show (a - b)+altSum r=a - (b - altSum r)
   omega
theorem half_at {i:Int}(h0:0<=i)(h8:i<8):∃ h:Nat,atI [D.int 1,D.int 2,D.int 2,D.int 3,D.int 3,D.int 4,D.int 2,D.int 3] i=some (.int (h:Int))/\1<=h/\h<=4:=by
 have:i=0\/i=1\/i=2\/i=3\/i=4\/i=5\/i=6\/i=7:=by omega
 rcases this with rfl|rfl|rfl|rfl|rfl|rfl|rfl|rfl
 ·exact ⟨1,rfl,by omega⟩
 ·exact ⟨2,rfl,by omega⟩
 ·exact ⟨2,rfl,by omega⟩
 ·exact ⟨3,rfl,by omega⟩
 ·exact ⟨3,rfl,by omega⟩
 ·exact ⟨4,rfl,by omega⟩
 ·exact ⟨2,rfl,by omega⟩
 ·exact ⟨3,rfl,by omega⟩
theorem most_at {i:Int}(h0:0<=i)(h5:i<5):∃ m:Int,atI [D.int 1,D.int 2,D.int 3,D.int 9,D.int p59] i=some (.int m)/\1<=m:=by
 have:i=0\/i=1\/i=2\/i=3\/i=4:=by omega
 rcases this with rfl|rfl|rfl|rfl|rfl
 ·exact ⟨1,rfl,by omega⟩
 ·exact ⟨2,rfl,by omega⟩
 ·exact ⟨3,rfl,by omega⟩
 ·exact ⟨9,rfl,by omega⟩
 ·exact ⟨p59,rfl,p59_pos⟩
noncomputable def gs0 (ns:List Int)(at' m:Int)(n:Nat):List Int:=(List.range n).map fun (j:Nat)=>1+cellZ ns (at'+1+(0+(j:Int))) * c6 % m
theorem gs0_is (ns:List Int)(at' m:Int)(n:Nat):((rngD 0 n).filter fun _=>true).map (fun d=>D.int (1+cellZ ns (at'+1+unI d) * c6 % m))=(gs0 ns at' m n).map D.int:=by
 unfold rngD gs0
 rw [show ∀ l:List D,l.filter (fun _=>true)=l from fun l=>by simp,List.map_map,List.map_map]
 rfl
theorem gs0_len (ns:List Int)(at' m:Int)(n:Nat):(gs0 ns at' m n).length=n:=by unfold gs0;simp
theorem gs0_pos {ns:List Int}{at' m:Int}{n:Nat}(hm:1<=m):∀ g∈gs0 ns at' m n,1<=g:=fun g hg=>by
 unfold gs0 at hg
 obtain ⟨j,_,rfl⟩:=List.mem_map.mp hg
 have:=Int.emod_nonneg (cellZ ns (at'+1+(0+(j:Int))) * c6) (show m≠0 by omega)
 omega
theorem set_pos {gs:List Int}{i:Nat}{v:Int}(h:∀ g∈gs,1<=g)(hv:1<=v):∀ g∈gs.set i v,1<=g:=fun g hg=>by
 rcases List.mem_or_eq_of_mem_set hg with h1|h1
 ·exact h g h1
 ·subst h1;exact hv
theorem getD_pos {gs:List Int}{i:Nat}(h:∀ g∈gs,1<=g)(hi:i<gs.length):1<=gs.getD i 0:=by
 have e:gs.getD i 0=gs[i]:=by simp [List.getD,hi]
 rw [e];exact h _ (List.getElem_mem hi)
theorem set_ints (gs:List Int)(j:Nat)(v:Int):(gs.map D.int).set j (.int v)=(gs.set j v).map D.int:=by rw [List.map_set]
noncomputable def gsA (k:Nat):MS:=(mSeq (mSet 3 (mOp addD (mC (.int 1)) (mOp modD (mOp mulD (mCall (f k "_law_nth") (mCons (mVar 0) (mCons (mOp addD (mVar 1) (mC (.int 1))) mNil))) (mOp powD (mC (.int 982451653)) (mC (.int 7)))) (mOp subD (mOp powD (mC (.int 10)) (mC (.int 60))) (mC (.int 99)))))) (mSeq (mSet 4 (mOp addD (mC (.int 1)) (mOp modD (mOp mulD (mCall (f k "_law_nth") (mCons (mVar 0) (mCons (mOp addD (mVar 1) (mC (.int 2))) mNil))) (mOp powD (mC (.int 982451653)) (mC (.int 7)))) (mOp subD (mOp powD (mC (.int 10)) (mC (.int 60))) (mC (.int 99)))))) (mRet (mOp itD (mLst (mCons (mLst (mCons (mVar 3) (mCons (mVar 3) mNil))) (mCons (mLst (mCons (mVar 3) (mCons (mVar 4) (mCons (mVar 4) (mCons (mVar 3) mNil))))) mNil))) (mOp modD (mOp fdivD (mVar 2) (mC (.int 5120))) (mC (.int 2)))))))
noncomputable def gsU (_:Nat):MS:=(mSeq (mSet 8 (mCall sumM (mCons (mCompI (iRng1D (mCons (mVar 5) mNil)) mTrue (mOp subD (mOp itD (mVar 7) (mOp mulD (mC (.int 2)) (mVar 10))) (mOp itD (mVar 7) (mOp addD (mOp mulD (mC (.int 2)) (mVar 10)) (mC (.int 1)))))) mNil))) (mSeq (mSet 9 (mOp mulD (mOp modD (mOp fdivD (mVar 2) (mC (.int 40))) (mVar 5)) (mC (.int 2)))) (mSeq (mIfS (mTest (mOp ltD (mVar 8) (mC (.int 0)))) (mPut (mVar 7) (mVar 9) (mOp subD (mOp itD (mVar 7) (mVar 9)) (mVar 8))) (mPut (mVar 7) (mOp addD (mVar 9) (mC (.int 1))) (mOp addD (mOp itD (mVar 7) (mOp addD (mVar 9) (mC (.int 1)))) (mVar 8)))) (mRet (mVar 7)))))
noncomputable def gsT (k:Nat):MS:=(mSeq (mSet 5 (mOp itD (mLst (mCons (mC (.int 1)) (mCons (mC (.int 2)) (mCons (mC (.int 2)) (mCons (mC (.int 3)) (mCons (mC (.int 3)) (mCons (mC (.int 4)) (mCons (mC (.int 2)) (mCons (mC (.int 3)) mNil))))))))) (mOp modD (mVar 2) (mC (.int 8))))) (mSeq (mSet 6 (mOp itD (mLst (mCons (mC (.int 1)) (mCons (mC (.int 2)) (mCons (mC (.int 3)) (mCons (mC (.int 9)) (mCons (mOp powD (mC (.int 10)) (mC (.int 59))) mNil)))))) (mOp modD (mOp fdivD (mVar 2) (mC (.int 8))) (mC (.int 5))))) (mSeq (mSet 7 (mCompI (iRng1D (mCons (mOp mulD (mC (.int 2)) (mVar 5)) mNil)) mTrue (mOp addD (mC (.int 1)) (mOp modD (mOp mulD (mCall (f k "_law_nth") (mCons (mVar 0) (mCons (mOp addD (mOp addD (mVar 1) (mC (.int 1))) (mVar 10)) mNil))) (mOp powD (mC (.int 982451653)) (mC (.int 6)))) (mVar 6))))) (gsU k))))
theorem ev_gaps (k:Nat)(d0 d1:D)(μ:Hm):f (k+1) "_law_gaps" [d0,d1] μ=fin ((mSeq (mSet 2 (mCall (f k "_law_nth") (mCons (mVar 0) (mCons (mVar 1) mNil)))) (mSeq (mIfS (mTest (mOp (eqM false) (mOp modD (mOp fdivD (mVar 2) (mC (.int 640))) (mC (.int 8))) (mC (.int 1)))) (gsA k) mNext) (gsT k))) [some d0,some d1,none,none,none,none,none,none,none,none] μ):=ev_w_gaps k d0 d1 μ
noncomputable def GapE (μ:Hm)(p:Fl×Rho×Hm):Prop:=∃ a gs,p.1=.rt (.loc a)/\μ <+: p.2.2/\p.2.2[a]? = some (.lst (gs.map D.int))/\GoodG gs/\μ.length<=a
theorem gapE {μ μ':Hm}{ρ:Rho}(a:Nat)(gs:List Int)(h1:μ <+: μ')(h2:μ'[a]? = some (.lst (gs.map D.int)))(h3:GoodG gs)(h4:μ.length<=a):GapE μ (.rt (.loc a),ρ,μ'):=⟨a,gs,rfl,h1,h2,h3,h4⟩
theorem s_gapsA (k:Nat)(ns:List Int)(hb:∀ m∈ns,Builtin.Int.intBits m<=2 ^ 20)(i:Int)(hi:0<=i)(hd:Int)(μ:Hm):W (gsA (k+1) [some (.rol (ns.map D.int)),some (.int i),some (.int hd),none,none,none,none,none,none,none] μ) (GapE μ):=by
 unfold gsA
 simp only [w_mSeq,w_mSet,w_mOp,w_mCall,w_mCons,w_mNil,w_mVar0,w_mVarS,w_mC,w_addI,s_nth _ ns (i+1) (by omega),s_nth _ ns (i+2) (by omega),w_c7,w_mulc7 hb,w_p60,w_subI,w_modI p60_pos,List.set_cons_zero,List.set_cons_succ]
 have n1:=Int.emod_nonneg (cellZ ns (i+1) * c7) (show p60 - 99≠0 from Int.ne_of_gt p60_pos)
 have n2:=Int.emod_nonneg (cellZ ns (i+2) * c7) (show p60 - 99≠0 from Int.ne_of_gt p60_pos)
 generalize cellZ ns (i+1) * c7 % (p60 - 99)=u at n1
 generalize cellZ ns (i+2) * c7 % (p60 - 99)=v at n2
 simp only [w_mRet,w_mOp,w_mLst,w_mCons,w_mNil,w_mVar0,w_mVarS]
 refine ⟨len2,by show (4:Nat)<=sizeLine;decide,len2,?_⟩
 simp only [w_mC,w_fdivI (show (0:Int)<5120 by decide) (show (5120:Int)<1073741824 by decide),w_mod2]
 have hc:hd / 5120 % 2=0\/hd / 5120 % 2=1:=by omega
 rcases hc with hc|hc
 ·rw [hc]
  refine (w_itL (get_last _ _) (d:=.loc μ.length) rfl).mpr ?_
  refine gapE _ [1+u,1+u] ((pre_snoc _ _).trans ((pre_snoc _ _).trans (pre_snoc _ _))) ?_ ⟨.inl rfl,fun g hg=>?_,?_⟩ (Nat.le_refl _)
  ·exact pre_get ((pre_snoc _ _).trans (pre_snoc _ _)) (get_last _ _)
  ·simp only [List.mem_cons,List.not_mem_nil,or_false] at hg
   rcases hg with rfl|rfl<;>omega
  ·simp only [altSum];omega
 ·rw [hc]
  refine (w_itL (get_last _ _) (d:=.loc (μ++[C.lst [D.int (1+u),D.int (1+u)]]).length) rfl).mpr ?_
  refine gapE _ [1+u,1+v,1+v,1+u] ((pre_snoc _ _).trans ((pre_snoc _ _).trans (pre_snoc _ _))) ?_ ⟨.inr (.inl rfl),fun g hg=>?_,?_⟩ (by simp)
  ·exact pre_get (pre_snoc _ _) (get_last _ _)
  ·simp only [List.mem_cons,List.not_mem_nil,or_false] at hg
   rcases hg with rfl|rfl|rfl|rfl<;>omega
  ·simp only [altSum];omega
theorem s_gapsU (k:Nat){μ μ1:Hm}{a h:Nat}{gs:List Int}{hd:Int}{o0 o1 o6:Option D}(hp:μ <+: μ1)(hg1:μ1[a]? = some (.lst (gs.map D.int)))(ha:μ.length<=a)(hlen:gs.length=2 * h)(hpos:∀ g∈gs,1<=g)(hl1:1<=h)(hl4:h<=4):W (gsU k [o0,o1,some (.int hd),none,none,some (.int h),o6,some (.loc a),none,none] μ1) (GapE μ):=by
 unfold gsU
 simp only [w_mSeq,w_mSet,w_mCall,w_mCons,w_mNil]
 refine w_comp (xs:=rngD 0 h) (p:=fun _=>true) (v:=fun d=>.int (gs.getD (2 * unI d).toNat 0 - gs.getD (2 * unI d+1).toNat 0)) ?_
 simp only [w_iRng1 (j:=0),w_mCons,w_mNil,w_mVar0,w_mVarS]
 have hn2:(h:Int).toNat=h:=by omega
 rw [hn2]
 refine ⟨by omega,src_rng,by simp [rngD],by rw [sizeLine_eq];simp [rngD];omega,?_,?_,?_⟩
 ·intro d μ' hd hp
  exact w_mTrue.mpr ⟨rfl,List.prefix_refl _⟩
 ·intro d μ' hd' _ hp
  obtain ⟨j,hj,rfl⟩:=mem_rng hd'
  simp only [List.cons_append,List.nil_append,w_mOp,w_mVar0,w_mVarS,w_mC,w_mul2,w_addI]
  refine (w_itL (pre_get hp hg1) (at_ok (by omega) (by omega))).mpr ?_
  refine (w_itL (pre_get hp hg1) (at_ok (by omega) (by omega))).mpr ?_
  exact (w_subI).mpr ⟨rfl,List.prefix_refl _⟩
 ·intro μ2 hp2 hg2
  have hs:((rngD 0 h).filter fun _=>true).map (fun d=>D.int (gs.getD (2 * unI d).toNat 0 - gs.getD (2 * unI d+1).toNat 0))=((List.range h).map fun k=>gs.getD (2 * k) 0 - gs.getD (2 * k+1) 0).map D.int:=by
   unfold rngD
   rw [show ∀ l:List D,l.filter (fun _=>true)=l from fun l=>by simp,List.map_map,List.map_map]
   refine List.map_congr_left fun k _=>?_
   show D.int (gs.getD (2 * (0+(k:Int))).toNat 0 - gs.getD (2 * (0+(k:Int))+1).toNat 0)=_
   rw [show (2 * (0+(k:Int))).toNat=2 * k by omega,show (2 * (0+(k:Int))+1).toNat=2 * k+1 by omega]
   rfl
  rw [hs] at hg2
  refine (w_sum hg2).mpr ?_
  rw [altSum_pairs h gs hlen]
  have hg:=pre_get hp2 hg1
  have hq:0<=hd / 40 % (h:Int)/\hd / 40 % (h:Int)<h:=⟨Int.emod_nonneg _ (by omega),Int.emod_lt_of_pos _ (by omega)⟩
  simp only [List.set_cons_zero,List.set_cons_succ,w_mOp,w_mVar0,w_mVarS,w_mC,w_fdivI (show (0:Int)<40 by decide) (show (40:Int)<1073741824 by decide),w_modI (show (0:Int)<(h:Int) by omega),w_mulR2,w_mIfS,w_mTest,w_ltI]
  generalize hsp:hd / 40 % (h:Int) * 2=sp
  have sp0:0<=sp:=by omega
  have sp1:sp+1<gs.length:=by omega
  have hev:sp.toNat % 2=0:=by omega
  have hod:¬ (sp+1).toNat % 2=0:=by omega
  have hgl:gs.length=2\/gs.length=4\/gs.length=6\/gs.length=8:=by omega
  by_cases hneg:altSum gs<0
  ·simp only [hneg,decide_true,if_true,w_mPut,w_mOp,w_mVar0,w_mVarS]
   refine (w_itL hg (at_ok sp0 (by omega))).mpr ?_
   refine (w_subI).mpr ?_
   refine (w_putL hg (ix_ok sp0 (by rw [List.length_map];omega))).mpr ?_
   simp only [w_mRet,w_mVar0,w_mVarS]
   rw [set_ints]
   refine gapE _ (gs.set sp.toNat (gs.getD sp.toNat 0 - altSum gs)) (pre_set (hp.trans hp2) ha _) ?_ ⟨by rw [List.length_set];exact hgl,set_pos hpos ?_,?_⟩ ha
   ·rw [List.getElem?_set_self (List.getElem?_eq_some_iff.mp hg).1]
   ·have:=getD_pos hpos (show sp.toNat<gs.length by omega)
    omega
   ·rw [altSum_set _ _ _ (by omega),if_pos hev]
    omega
  ·simp only [hneg,decide_false,Bool.false_eq_true,if_false,w_mPut,w_mOp,w_mVar0,w_mVarS,w_mC,w_addI]
   refine (w_itL hg (at_ok (by omega) (by omega))).mpr ?_
   refine (w_addI).mpr ?_
   refine (w_putL hg (ix_ok (by omega) (by rw [List.length_map];omega))).mpr ?_
   simp only [w_mRet,w_mVar0,w_mVarS]
   rw [set_ints]
   refine gapE _ (gs.set (sp+1).toNat (gs.getD (sp+1).toNat 0+altSum gs)) (pre_set (hp.trans hp2) ha _) ?_ ⟨by rw [List.length_set];exact hgl,set_pos hpos ?_,?_⟩ ha
   ·rw [List.getElem?_set_self (List.getElem?_eq_some_iff.mp hg).1]
   ·have:=getD_pos hpos (show (sp+1).toNat<gs.length by omega)
    omega
   ·rw [altSum_set _ _ _ (by omega),if_neg hod]
    omega
theorem s_gapsT (k:Nat)(ns:List Int)(hb:∀ m∈ns,Builtin.Int.intBits m<=2 ^ 20)(i:Int)(hi:0<=i)(hd:Int)(μ:Hm):W (gsT (k+1) [some (.rol (ns.map D.int)),some (.int i),some (.int hd),none,none,none,none,none,none,none] μ) (GapE μ):=by
 unfold gsT
 simp only [w_mSeq,w_mSet,w_mOp,w_mLst,w_mCons,w_mNil,w_mVar0,w_mVarS,w_mC,w_modI (show (0:Int)<8 by decide)]
 refine ⟨by show (8:Nat)<=sizeLine;decide,?_⟩
 obtain ⟨h,hh,hl1,hl4⟩:=half_at (i:=hd % 8) (by omega) (by omega)
 refine (w_itL (get_last _ _) hh).mpr ?_
 simp only [List.set_cons_zero,List.set_cons_succ,w_mOp,w_mLst,w_mCons,w_mNil,w_mVar0,w_mVarS,w_mC,w_p59',w_div8,w_modI (show (0:Int)<5 by decide)]
 refine ⟨by show (5:Nat)<=sizeLine;decide,?_⟩
 obtain ⟨m,hm,hm1⟩:=most_at (i:=hd / 8 % 5) (by omega) (by omega)
 refine (w_itL (get_last _ _) hm).mpr ?_
 simp only [List.set_cons_zero,List.set_cons_succ]
 refine w_comp (xs:=rngD 0 (2 * h)) (p:=fun _=>true) (v:=fun d=>.int (1+cellZ ns (i+1+unI d) * c6 % m)) ?_
 simp only [w_iRng1 (j:=0),w_mCons,w_mNil,w_mC,w_mOp,w_mVar0,w_mVarS,w_mul2]
 have hn:(2 * (h:Int)).toNat=2 * h:=by omega
 rw [hn]
 refine ⟨by omega,src_rng,by simp [rngD],by rw [sizeLine_eq];simp [rngD];omega,?_,?_,?_⟩
 ·intro d μ' hd hp
  exact w_mTrue.mpr ⟨rfl,List.prefix_refl _⟩
 ·intro d μ' hd' _ hp
  obtain ⟨j,hj,rfl⟩:=mem_rng hd'
  simp only [List.cons_append,List.nil_append,w_mOp,w_mCall,w_mCons,w_mNil,w_mVar0,w_mVarS,w_mC,w_addI,s_nth _ ns (i+1+(0+(j:Int))) (by omega),w_c6,w_mulc6 hb,w_modI (show (0:Int)<m by omega)]
  exact ⟨rfl,List.prefix_refl _⟩
 ·intro μ1 hp1 hg1
  rw [gs0_is] at hg1
  have hlen:=gs0_len ns i m (2 * h)
  have hpos:=gs0_pos (ns:=ns) (at':=i) (n:=2 * h) hm1
  generalize gs0 ns i m (2 * h)=gs at hg1 hlen hpos
  generalize hμ0:(μ++[C.lst [D.int 1,D.int 2,D.int 2,D.int 3,D.int 3,D.int 4,D.int 2,D.int 3]]++[C.lst [D.int 1,D.int 2,D.int 3,D.int 9,D.int p59]])=μ0 at hp1 hg1
  have p0:μ <+: μ0:=by rw [<- hμ0];exact (pre_snoc _ _).trans (pre_snoc _ _)
  exact s_gapsU _ (p0.trans hp1) hg1 (pre_len p0) hlen hpos hl1 hl4
theorem s_gaps (k:Nat)(ns:List Int)(hb:∀ m∈ns,Builtin.Int.intBits m<=2 ^ 20)(i:Int)(hi:0<=i)(μ:Hm)(Q:D×Hm->Prop)
  (H:∀ a μ' gs,μ <+: μ'->μ'[a]? = some (.lst (gs.map D.int))->GoodG gs->μ.length<=a->Q (.loc a,μ')):W (f (k+2) "_law_gaps" [.rol (ns.map D.int),.int i] μ) Q:=by
 rw [ev_gaps,W_fin]
 refine W_mono (Q:=GapE μ) ?_ fun p q=>?_
 ·simp only [w_mSeq,w_mSet,w_mCall,w_mCons,w_mNil,w_mVar0,w_mVarS,s_nth _ ns i hi]
  generalize cellZ ns i=hd
  simp only [List.set_cons_zero,List.set_cons_succ,w_mIfS,w_mTest,w_mOp,w_mVar0,w_mVarS,w_mC,w_fdivI (show (0:Int)<640 by decide) (show (640:Int)<1073741824 by decide),w_modI (show (0:Int)<8 by decide),w_eqI]
  by_cases h1:hd / 640 % 8=1
  ·have e1:(hd / 640 % 8 == 1)=true:=by simpa using h1
   simp only [e1,if_true]
   refine W_mono (s_gapsA _ ns hb i hi hd μ) fun p q=>?_
   obtain ⟨a,gs,e,q⟩:=q
   simp only [e]
   exact ⟨a,gs,e,q⟩
  ·have e1:(hd / 640 % 8 == 1)=false:=by simpa using h1
   simp only [e1,Bool.false_eq_true,if_false,w_mNext]
   exact s_gapsT _ ns hb i hi hd μ
 ·obtain ⟨a,gs,e,q1,q2,q3,q4⟩:=q
  simp only [e]
  exact H _ _ gs q1 q2 q3 q4
noncomputable def goodB (gs:List Int):Bool:=decide (gs.length<=8)&&decide (gs.length % 2=0)&&gs.all (fun g=>decide (1<=g))&&altSum gs == 0
theorem GoodG.b {gs:List Int}(h:GoodG gs):goodB gs=true:=by
 unfold goodB
 have:=h.len
 rw [decide_eq_true (by omega),decide_eq_true (by omega),h.alt]
 have:gs.all (fun g=>decide (1<=g))=true:=List.all_eq_true.mpr fun g hg=>by simpa using h.pos g hg
 rw [this]
 rfl
theorem s_is_whole (k:Nat)(i:Int)(μ:Hm)(Q:D×Hm->Prop):W (f (k+1) "is_whole" [.int i] μ) Q↔Q (.bl true,μ):=by
 rw [ev_p_is_whole,W_fin]
 simp only [w_mRet,w_mAndV,w_mNotV,w_mCall,w_mCons,w_mNil,w_mVar0,w_mC,w_instIB,w_instII]
 simp
theorem pick_even:∀ gs:List Int,gs.length<=8->gs.length % 2=0->∃ es os:List Int,pickS (gs.map D.int) none none (some 2)=es.map D.int/\pickS (gs.map D.int) (some 1) none (some 2)=os.map D.int/\es.sum - os.sum=altSum gs/\es.length<=8/\os.length<=8
 | [],_,_=>⟨[],[],rfl,rfl,rfl,by decide,by decide⟩
 | [_],_,h=>by simp at h
 | [a,b],_,_=>⟨[a],[b],by kernel_rfl,by kernel_rfl,by simp [altSum]<;>omega,by simp,by simp⟩
 | [_,_,_],_,h=>by simp at h
 | [a,b,c,d],_,_=>⟨[a,c],[b,d],by kernel_rfl,by kernel_rfl,by simp [altSum]<;>omega,by simp,by simp⟩
 | [_,_,_,_,_],_,h=>by simp at h
 | [a,b,c,d,e,g],_,_=>⟨[a,c,e],[b,d,g],by kernel_rfl,by kernel_rfl,by simp [altSum]<;>omega,by simp,by simp⟩
 | [_,_,_,_,_,_,_],_,h=>by simp at h
 | [a,b,c,d,e,g,x,y],_,_=>⟨[a,c,e,x],[b,d,g,y],by kernel_rfl,by kernel_rfl,by simp [altSum]<;>omega,by simp,by simp⟩
 | _::_::_::_::_::_::_::_::_::_,h,_=>absurd h (by simp)
theorem mem_ints {d:D}{gs:List Int}(h:d∈gs.map D.int):∃ g∈gs,d=.int g:=by
 obtain ⟨g,h1,rfl⟩:=List.mem_map.mp h
 exact ⟨g,h1,rfl⟩
theorem filter_all {α:Type}(l:List α):l.filter (fun _=>true)=l:=by simp
theorem s_is_good (k:Nat)(a:Nat)(gs:List Int)(hz:gs.length<=1000)(μ:Hm)(Q:D×Hm->Prop)(ha:μ[a]? = some (.lst (gs.map D.int)))(H:∀ μ',μ <+: μ'->Q (.bl (goodB gs),μ')):W (f (k+2) "is_good" [.loc a] μ) Q:=by
 rw [ev_p_is_good,W_fin]
 simp only [w_mSeq,w_mIfS,w_mOrT,w_mTest,w_mOp,w_mCall,w_mCons,w_mNil,w_mVar0,w_mC]
 refine (w_lenL ha).mpr ?_
 simp only [w_gtI,List.length_map]
 by_cases h8:(8:Int)<gs.length
 ·have e:goodB gs=false:=by
   unfold goodB;rw [decide_eq_false (show ¬ gs.length<=8 by omega)];rfl
  simp only [h8,decide_true,if_true,w_mRet,w_mC]
  rw [<- e]
  exact H _ (List.prefix_refl _)
 ·simp only [h8,decide_false,Bool.false_eq_true,if_false]
  refine (w_lenL ha).mpr ?_
  simp only [w_mod2,w_eqI,List.length_map]
  by_cases ho:(gs.length:Int) % 2=1
  ·have e:goodB gs=false:=by
    unfold goodB;rw [decide_eq_false (show ¬ gs.length % 2=0 by omega)];simp
   simp only [ho,beq_self_eq_true,if_true,w_mRet,w_mC]
   rw [<- e]
   exact H _ (List.prefix_refl _)
  ·have e1:((gs.length:Int) % 2 == 1)=false:=by simpa using ho
   simp only [e1,Bool.false_eq_true,if_false,w_mNext,w_mNotT,w_mTru,w_mCall,w_mCons,w_mNil]
   refine w_comp (xs:=gs.map D.int) (p:=fun _=>true) (v:=fun d=>.bl (decide (1<=unI d))) ?_
   simp only [w_iSeq,w_mVar0]
   refine (w_seqL ha).mpr ?_
   refine ⟨src_loc ha,rfl,by rw [List.length_map,sizeLine_eq];omega,fun d μ' hd hp=>w_mTrue.mpr ⟨rfl,List.prefix_refl _⟩,fun d μ' hd _ hp=>?_,fun μ1 hp1 hg1=>?_⟩
   ·obtain ⟨g,_,rfl⟩:=mem_ints hd
    simp only [List.cons_append,List.nil_append,w_mAndV,w_mCall,w_mCons,w_mNil,w_mVar0,w_mVarS,s_is_whole,if_true,w_mOp,w_mC,w_geI]
    exact ⟨rfl,List.prefix_refl _⟩
   ·have hg1':μ1[μ.length]? = some (.lst ((gs.map fun g=>decide (1<=g)).map D.bl)):=by
     rw [hg1,filter_all,List.map_map,List.map_map]
     rfl
    refine (w_all hg1').mpr ?_
    have hall:(gs.map fun g=>decide (1<=g)).all id=gs.all fun g=>decide (1<=g):=by
     rw [List.all_map];rfl
    rw [hall]
    simp only [w_truB]
    cases hb:gs.all fun g=>decide (1<=g) with
    | false=>
     have e:goodB gs=false:=by
      unfold goodB;rw [hb];simp
     simp only [Bool.not_false,if_true,w_mRet,w_mC]
     rw [<- e]
     exact H _ hp1
    | true=>
     simp only [Bool.not_true,Bool.false_eq_true,if_false,w_mNext,w_mRet,w_mOp,w_mCall,w_mCons,w_mNil]
     obtain ⟨es,os,he,ho',hs,l1,l2⟩:=pick_even gs (by omega) (by omega)
     have ha1:=pre_get hp1 ha
     refine w_sliceSL ?_
     simp only [w_mVar0]
     refine ⟨a,rfl,?_⟩
     simp only [w_mNoPart,w_mPart,w_mC]
     refine ⟨by decide,_,ha1,?_,?_⟩
     ·rw [he,List.length_map,sizeLine_eq];omega
     rw [he]
     refine (w_sum (get_last _ _)).mpr ?_
     refine w_sliceSL ?_
     simp only [w_mVar0]
     refine ⟨a,rfl,?_⟩
     simp only [w_mNoPart,w_mPart,w_mC]
     refine ⟨by decide,_,pre_get (pre_snoc _ _) ha1,?_,?_⟩
     ·rw [ho',List.length_map,sizeLine_eq];omega
     rw [ho']
     refine (w_sum (get_last _ _)).mpr ?_
     refine (w_eqI).mpr ?_
     have e:goodB gs=(es.sum == os.sum):=by
      unfold goodB
      rw [hb,decide_eq_true (show gs.length<=8 by omega),decide_eq_true (show gs.length % 2=0 by omega)]
      simp only [Bool.true_and]
      rw [Bool.eq_iff_iff,beq_iff_eq,beq_iff_eq]
      omega
     rw [<- e]
     exact H _ (hp1.trans ((pre_snoc _ _).trans (pre_snoc _ _)))
theorem s_check_round (k:Nat)(a:Nat)(gs:List Int)(hG:GoodG gs)(μ:Hm)(Q:D×Hm->Prop)(ha:μ[a]? = some (.lst (gs.map D.int)))(H:∀ μ',μ <+: μ'->Q (.non,μ')):W (f (k+3) "check_round" [.loc a] μ) Q:=by
 have hl:=hG.len
 have hrg:=hG.rgl
 rw [ev_p_check_round,W_fin]
 simp only [w_mIfS,w_mOrT,w_mTest,w_mOp,w_mCall,w_mCons,w_mNil,w_mVar0,w_mC]
 refine (w_lenL ha).mpr ?_
 have h2:¬ ((gs.length:Int)<2):=by omega
 simp only [w_ltI,List.length_map,h2,decide_false,Bool.false_eq_true,if_false,w_mNotT,w_mTru,w_mCall,w_mCons,w_mNil,w_mVar0]
 refine s_is_good _ a gs (by omega) _ _ ha fun μ1 p1=>?_
 simp only [hG.b,w_truB,Bool.not_true,Bool.false_eq_true,if_false,w_mNext]
 exact H _ p1
noncomputable def spAt (gs:List Int):Nat->Int
 | 0=>0
 | j+1=>spAt gs j+(if j % 2=0 then gs.getD j 0 else -(gs.getD j 0))
theorem cut_last (xs:List D)(h:0<xs.length):cutD xs none (some (-1))=xs.take (xs.length - 1):=by
 unfold cutD
 have e1:HT.sIx xs.length 0 none=0:=HT.sIx_none _ _
 have e2:HT.sIx xs.length xs.length (some (-1))=xs.length - 1:=by
  unfold HT.sIx
  first
  | (simp;omega)
  | (rw [if_pos (by decide)];omega)
  | omega
 rw [e1,e2]
 simp
noncomputable def upto (n:Nat):List Int:=(List.range n).map fun (i:Nat)=>(i:Int)
theorem upto_succ (n:Nat):upto (n+1)=upto n++[(n:Int)]:=by unfold upto;rw [List.range_succ,List.map_append];rfl
theorem mem_upto {n:Nat}{x:Int}:x∈upto n↔0<=x/\x<n:=by
 unfold upto
 rw [List.mem_map]
 constructor
 ·rintro ⟨i,h,rfl⟩
  have:=List.mem_range.mp h
  omega
 ·intro h
  exact ⟨x.toNat,List.mem_range.mpr (by omega),by omega⟩
theorem upto_nodup (n:Nat):(upto n).Nodup:=by
 unfold upto
 show List.Pairwise _ _
 rw [List.pairwise_map]
 exact List.Pairwise.imp (fun h=>by omega) List.pairwise_lt_range
theorem upto_len (n:Nat):(upto n).length=n:=by unfold upto;simp
structure Ord (n:Nat)(os:List Int):Prop where
 perm:os.Perm (upto n)
theorem Ord.len {n:Nat}{os:List Int}(h:Ord n os):os.length=n:=by rw [h.perm.length_eq,upto_len]
theorem Ord.mem {n:Nat}{os:List Int}(h:Ord n os){x:Int}:x∈os↔0<=x/\x<n:=by rw [h.perm.mem_iff,mem_upto]
theorem Ord.nd {n:Nat}{os:List Int}(h:Ord n os):os.Nodup:=h.perm.nodup_iff.mpr (upto_nodup n)
theorem ins_perm (os:List Int)(p:Nat)(x:Int):(insAt os p x).Perm (x::os):=by
 unfold insAt
 refine List.perm_middle.trans ?_
 rw [List.take_append_drop]
theorem Ord.ins {n:Nat}{os:List Int}(h:Ord n os)(p:Nat):Ord (n+1) (insAt os p (n:Int)):=by
 refine ⟨(ins_perm os p n).trans ((List.Perm.cons _ h.perm).trans ?_)⟩
 rw [upto_succ]
 exact (List.perm_append_singleton _ _).symm
noncomputable def betw (h a b:Int):Bool:=decide (min a b<h)&&decide (h<max a b)
noncomputable def amidB (os:List Int)(n:Nat)(k:Int)(w:Int):Bool:=betw (os.idxOf w:Nat) (os.idxOf ((k - 1) % n):Nat) (os.idxOf k:Nat)
noncomputable def reachB (sp:List Int)(n:Nat)(k:Int)(w:Int):Bool:=betw (sp.getD k.toNat 0) (sp.getD w.toNat 0) (sp.getD ((w+1) % n).toNat 0)
noncomputable def creaseB (sp os:List Int)(n:Nat)(k:Int)(m:Int):Bool:=decide (m≠k)&&decide (m % 2=k % 2)&&decide (sp.getD m.toNat 0=sp.getD k.toNat 0)&&(amidB os n k m != amidB os n k ((m - 1) % n))
theorem fl_ints (ws:List Int)(p:Int->Bool):((ws.map D.int).filter fun d=>p (unI d)).map (fun d=>d)=(ws.filter p).map D.int:=by
 rw [List.map_id',List.filter_map]
 rfl
theorem at_zero {x:D}{xs:List D}:atI (x::xs) 0=some x:=by
 unfold atI
 rw [ix_ok (Int.le_refl _) (by rw [List.length_cons];omega)]
 rfl
noncomputable def shutK (sp os:List Int)(n:Nat)(k:Int):Option D:=
 match (upto n).find? fun w=>amidB os n k w&&reachB sp n k w with
 | some w=>some (.tup [.str "wedge",.int k,.int w])
 | none=>((upto n).find? (creaseB sp os n k)).map fun m=>.tup [.str "crease",.int k,.int m]
noncomputable def Shut (sp os:List Int)(n:Nat)(d:D):Prop:=(∃ k:Nat,k<n/\(∀ j:Nat,j<k->shutK sp os n (j:Int)=none)/\shutK sp os n (k:Int)=some d)\/((∀ j:Nat,j<n->shutK sp os n (j:Int)=none)/\d=.non)
theorem Shut.one {sp os:List Int}{n:Nat}{d d':D}(h:Shut sp os n d)(h':Shut sp os n d'):d=d':=by
 rcases h with ⟨k,k1,k2,k3⟩|⟨k1,rfl⟩<;>rcases h' with ⟨j,j1,j2,j3⟩|⟨j1,rfl⟩
 ·rcases Nat.lt_trichotomy k j with h|h|h
  ·rw [j2 k h] at k3;cases k3
  ·subst h;rw [k3] at j3;exact Option.some.inj j3
  ·rw [k2 j h] at j3;cases j3
 ·rw [j1 k k1] at k3;cases k3
 ·rw [k1 j j1] at j3;cases j3
 ·rfl
noncomputable def sgn:Bool->Str
 | true=>"v"
 | false=>"h"
noncomputable def cpv:Bool->Nat
 | true=>118
 | false=>104
theorem sgn_is (b:Bool):sgn b=⟨#[cpv b]⟩:=by cases b<;>kernel_rfl
noncomputable def mStr (bs:List Bool):Str:=⟨(bs.map cpv).toArray⟩
theorem mStr_len (bs:List Bool):(mStr bs).length=bs.length:=by
 show ((bs.map cpv).toArray).size=_
 simp
theorem mStr_snoc (bs:List Bool)(b:Bool):mStr bs++(⟨#[cpv b]⟩:Str)=mStr (bs++[b]):=by
 show (⟨(bs.map cpv).toArray++#[cpv b]⟩:Str)=⟨((bs++[b]).map cpv).toArray⟩
 simp
noncomputable abbrev Gm:=Int×Bool
noncomputable def Rot {α:Type}(l l':List α):Prop:=∃ u v,l=u++v/\l'=v++u
theorem Rot.symm {α:Type}{l l':List α}:Rot l l'->Rot l' l:=fun ⟨u,v,h,h'⟩=>⟨v,u,h',h⟩
theorem Rot.re {α:Type}{l:List α}:Rot l l:=⟨[],l,by simp,by simp⟩
theorem Rot.trans {α:Type}{l l' l'':List α}:Rot l l'->Rot l' l''->Rot l l'':=fun ⟨u,v,h,h'⟩ ⟨p,q,g,g'⟩=>by
 subst h g'
 rw [h'] at g
 rcases List.append_eq_append_iff.mp g with ⟨a,rfl,rfl⟩|⟨c,rfl,rfl⟩
 ·exact ⟨a,q++v,by simp,by simp⟩
 ·exact ⟨u++p,c,by simp,by simp⟩
theorem Rot.len {α:Type}{l l':List α}:Rot l l'->l.length=l'.length:=fun ⟨u,v,h,h'⟩=>by subst h h';simp;omega
noncomputable def crG (x y z:Gm):Prop:=y.1<=x.1/\y.1<=z.1/\y.2≠z.2
noncomputable def cjG (x y z:Gm):Gm:=(x.1 - y.1+z.1,x.2)
inductive Fo:List Gm->Prop
 | two {x y:Gm}:x.2=y.2->Fo [x,y]
 | step {l r:List Gm}{x y z:Gm}:Rot l (x::y::z::r)->crG x y z->Fo (cjG x y z::r)->Fo l
theorem Fo.rot {l l':List Gm}(h:Fo l)(R:Rot l l'):Fo l':=by
 cases h with
 | two h=>
  rename_i x y
  obtain ⟨u,v,h1,h2⟩:=R
  match u,h1 with
  | [],h1=>simp at h1;subst h1 h2;exact .two h
  | [a],h1=>simp at h1;obtain ⟨rfl,rfl⟩:=h1;subst h2;exact .two h.symm
  | [a,b],h1=>simp at h1;obtain ⟨rfl,rfl,rfl⟩:=h1;subst h2;exact .two h
  | a::b::c::u,h1=>simp at h1
 | step R' c F=>exact .step (R.symm.trans R') c F
theorem gm_ext {x y:Gm}(h1:x.1=y.1)(h2:x.2=y.2):x=y:=Prod.ext h1 h2
theorem bool_two {a b c:Bool}(h:a≠b)(h':b≠c):a=c:=by cases a<;>cases b<;>cases c<;>simp_all
theorem conf:∀ (n:Nat)(x y z:Gm)(r:List Gm),r.length+3=2 * n->crG x y z->Fo (x::y::z::r)->Fo (cjG x y z::r):=by
 intro n
 induction n with
 | zero=>intro x y z r h;omega
 | succ n ih=>
  intro x y z r hn c F
  cases F with
  | step R c' F'=>
   rename_i r' x' y' z'
   obtain ⟨u,v,h1,h2⟩:=R
   match u,h1 with
   | [],h1=>
    simp at h1;subst h1;simp at h2
    obtain ⟨rfl,rfl,rfl,rfl⟩:=h2
    exact F'
   | [a],h1=>
    simp at h1;obtain ⟨rfl,rfl⟩:=h1
    match r,hn with
    | [],hn=>simp at hn;omega
    | q::s,hn=>
     simp at h2;obtain ⟨rfl,rfl,rfl,rfl⟩:=h2
     obtain ⟨c1,c2,c3⟩:=c
     obtain ⟨d1,d2,d3⟩:=c'
     have e1:cjG x x' y'=x:=gm_ext (by show x.1 - x'.1+y'.1=x.1;omega) rfl
     have e2:cjG x' y' z'=z':=gm_ext (by show x'.1 - y'.1+z'.1=z'.1;omega) (bool_two c3 d3)
     rw [e2] at F'
     rw [e1]
     exact F'.rot ⟨z'::s,[x],by simp,by simp⟩
   | [a,b],h1=>
    simp at h1;obtain ⟨rfl,rfl,rfl⟩:=h1
    match r,hn with
    | [],hn=>simp at hn;omega
    | [q],hn=>
     simp at h2;obtain ⟨rfl,rfl,rfl,rfl⟩:=h2
     have:(cjG x' y' z').2=y.2:=by
      cases F' with
      | two h=>exact h
      | step R _ _=>have:=R.len;simp at this
     exact absurd this.symm c.2.2
    | q::t::s,hn=>
     simp at h2;obtain ⟨rfl,rfl,rfl,rfl⟩:=h2
     obtain ⟨c1,c2,c3⟩:=c
     obtain ⟨d1,d2,d3⟩:=c'
     have F2:Fo (x::y::cjG x' y' z'::s):=F'.rot ⟨cjG x' y' z'::s,[x,y],by simp,by simp⟩
     have F3:=ih x y (cjG x' y' z') s (by simp at hn;omega) ⟨c1,by show y.1<=x'.1 - y'.1+z'.1;omega,c3⟩ F2
     have e:cjG x y (cjG x' y' z')=cjG (cjG x y x') y' z':=gm_ext (by show x.1 - y.1+(x'.1 - y'.1+z'.1)=x.1 - y.1+x'.1 - y'.1+z'.1;omega) rfl
     rw [e] at F3
     exact .step .re ⟨by show y'.1<=x.1 - y.1+x'.1;omega,d2,d3⟩ F3
   | a::b::d::r1,h1=>
    simp at h1;obtain ⟨rfl,rfl,rfl,rfl⟩:=h1
    match v,h2 with
    | [],h2=>
     simp at h2
     obtain ⟨rfl,rfl,rfl,rfl⟩:=h2
     simpa using F'
    | [a],h2=>
     simp at h2;obtain ⟨rfl,rfl,rfl,rfl⟩:=h2
     obtain ⟨c1,c2,c3⟩:=c
     obtain ⟨d1,d2,d3⟩:=c'
     have e1:cjG y' z' z=z:=gm_ext (by show y'.1 - z'.1+z.1=z.1;omega) (bool_two d3 c3)
     have e2:cjG x' y' z'=x':=gm_ext (by show x'.1 - y'.1+z'.1=x'.1;omega) rfl
     rw [e2] at F'
     rw [e1]
     exact F'.rot ⟨[x'],z::r1,by simp,by simp⟩
    | [a,b],h2=>
     simp at h2;obtain ⟨rfl,rfl,rfl,rfl⟩:=h2
     obtain ⟨c1,c2,c3⟩:=c
     obtain ⟨d1,d2,d3⟩:=c'
     have F3:=ih (cjG x' y' z') y z r1 (by simp at hn;omega) ⟨by show y.1<=x'.1 - y'.1+z'.1;omega,c2,c3⟩ F'
     have e:cjG (cjG x' y' z') y z=cjG x' y' (cjG z' y z):=gm_ext (by show x'.1 - y'.1+z'.1 - y.1+z.1=x'.1 - y'.1+(z'.1 - y.1+z.1);omega) rfl
     rw [e] at F3
     exact .step (x:=x') (y:=y') (z:=cjG z' y z) (r:=r1) ⟨cjG z' y z::r1,[x',y'],by simp,by simp⟩ ⟨d1,by show y'.1<=z'.1 - y.1+z.1;omega,d3⟩ F3
    | a::b::d::v,h2=>
     simp at h2;obtain ⟨rfl,rfl,rfl,rfl⟩:=h2
     have F2:Fo (x::y::z::(r1++cjG x' y' z'::v)):=F'.rot ⟨cjG x' y' z'::v,x::y::z::r1,by simp,by simp⟩
     have F3:=ih x y z _ (by simp at hn ⊢;omega) c F2
     have F4:Fo (cjG x' y' z'::(v++cjG x y z::r1)):=F3.rot ⟨cjG x y z::r1,cjG x' y' z'::v,by simp,by simp⟩
     exact .step (x:=x') (y:=y') (z:=z') (r:=v++cjG x y z::r1) ⟨cjG x y z::r1,x'::y'::z'::v,by simp,by simp⟩ c' F4
theorem Fo.iff {l r:List Gm}{x y z:Gm}(R:Rot l (x::y::z::r))(hn:l.length % 2=0)(c:crG x y z):Fo l↔Fo (cjG x y z::r):=by
 refine ⟨fun F=>conf (l.length / 2) x y z r ?_ c (F.rot R),fun F=>.step R c F⟩
 have:=R.len
 simp at this
 omega
noncomputable abbrev Wd:=Int×Bool×List Int
noncomputable def gm (w:Wd):Gm:=(w.1,w.2.1)
noncomputable def crB (x y z:Wd):Bool:=decide (y.1<=x.1)&&decide (y.1<=z.1)&&(y.2.1 != z.2.1)
theorem crB_iff {x y z:Wd}:crB x y z=true↔crG (gm x) (gm y) (gm z):=by
 unfold crB crG gm
 simp [and_assoc]
noncomputable def turnB (w:Wd):Bool:=w.2.2.headD 0 % 2 == 1
noncomputable def crimpP (x y z:Wd):Wd:=(x.1 - y.1+z.1,x.2.1,if y.2.1 == turnB y then x.2.2++y.2.2++z.2.2 else z.2.2++y.2.2++x.2.2)
noncomputable def lastP (x y:Wd):Option (List Int):=if x.2.1 != y.2.1 then none else some (if x.2.1 == turnB x then y.2.2++x.2.2 else x.2.2++y.2.2)
noncomputable def headP:List Wd->Bool
 | x::y::z::_=>crB x y z
 | _=>false
noncomputable def rotP (l:List Wd)(k:Nat):List Wd:=l.drop k++l.take k
noncomputable def aheadP (l:List Wd):Option (List Wd):=((List.range l.length).find? fun k=>headP (rotP l k)).map (rotP l)
noncomputable def foldP:Nat->List Wd->Option (List Int)
 | 0,_=>none
 | t+1,l=>if 2<l.length then (match aheadP l with
   | some (x::y::z::r)=>foldP t (crimpP x y z::r)
   | _=>none) else (match l with
   | [x,y]=>lastP x y
   | _=>none)
theorem headP_get {l:List Wd}(h:headP l=true):∃ x y z r,l=x::y::z::r/\crB x y z=true:=by
 match l,h with
 | x::y::z::r,h=>exact ⟨x,y,z,r,rfl,h⟩
theorem rotP_Rot (l:List Wd)(k:Nat):Rot l (rotP l k):=⟨l.take k,l.drop k,by simp,rfl⟩
theorem aheadP_some {l l':List Wd}(h:aheadP l=some l'):Rot l l'/\∃ x y z r,l'=x::y::z::r/\crB x y z=true:=by
 unfold aheadP at h
 obtain ⟨k,h1,rfl⟩:=Option.map_eq_some_iff.mp h
 exact ⟨rotP_Rot l k,headP_get (by simpa using List.find?_some h1)⟩
theorem aheadP_none {l:List Wd}(h:aheadP l=none){x y z:Wd}{r:List Wd}(R:Rot l (x::y::z::r)):crB x y z=false:=by
 unfold aheadP at h
 have h':=List.find?_eq_none.mp (Option.map_eq_none_iff.mp h)
 obtain ⟨u,v,h1,h2⟩:=R
 cases hc:crB x y z with
 | false=>rfl
 | true=>
  exfalso
  match v,h2 with
  | [],h2=>
   refine h' 0 (List.mem_range.mpr (by subst h1;simp at h2;rw [<- h2];simp)) ?_
   subst h1
   simp at h2
   unfold rotP
   simp [<- h2,headP,hc]
  | w::v,h2=>
   refine h' u.length (List.mem_range.mpr (by subst h1;simp)) ?_
   subst h1
   unfold rotP
   simp only [List.drop_left,List.take_left,<- h2]
   exact hc
theorem Rot.map {α β:Type}{l l':List α}(g:α->β)(h:Rot l l'):Rot (l.map g) (l'.map g):=by
 obtain ⟨u,v,h1,h2⟩:=h
 exact ⟨u.map g,v.map g,by rw [h1];simp,by rw [h2];simp⟩
theorem Rot.unmap {α β:Type}{l:List α}{m:List β}(g:α->β)(h:Rot (l.map g) m):∃ l',Rot l l'/\l'.map g=m:=by
 obtain ⟨u,v,h1,h2⟩:=h
 obtain ⟨u',v',e,e1,e2⟩:=List.map_eq_append_iff.mp h1
 exact ⟨v'++u',⟨u',v',e,rfl⟩,by rw [h2];simp [e1,e2]⟩
theorem gm_crimp (x y z:Wd):gm (crimpP x y z)=cjG (gm x) (gm y) (gm z):=rfl
theorem foldP_iff:∀ (t:Nat)(l:List Wd),l.length % 2=0->2<=l.length->l.length<=2 * t->((foldP t l).isSome=true↔Fo (l.map gm)):=by
 intro t
 induction t with
 | zero=>intro l _ h1 h2;omega
 | succ t ih=>
  intro l he h1 h2
  unfold foldP
  by_cases hl:2<l.length
  ·rw [if_pos hl]
   cases ha:aheadP l with
   | none=>
    simp only [Option.isSome_none,Bool.false_eq_true,false_iff]
    intro F
    generalize hm:l.map gm=m at F
    cases F with
    | two h=>have:=congrArg List.length hm;simp at this;omega
    | step R c _=>
     rw [<- hm] at R
     obtain ⟨l',R',e⟩:=R.unmap
     match l',e with
     | x::y::z::r,e=>
      simp at e
      obtain ⟨rfl,rfl,rfl,rfl⟩:=e
      have:=aheadP_none ha R'
      rw [crB_iff.mpr c] at this
      cases this
   | some l'=>
    obtain ⟨R,x,y,z,r,rfl,c⟩:=aheadP_some ha
    have hlen:=R.len
    simp only [List.length_cons] at hlen
    dsimp only
    rw [ih _ (by simp only [List.length_cons];omega) (by simp only [List.length_cons];omega) (by simp only [List.length_cons];omega)]
    have R':=R.map gm
    simp only [List.map_cons] at R'
    rw [Fo.iff R' (by rw [List.length_map];exact he) (crB_iff.mp c)]
    rw [List.map_cons,gm_crimp]
  ·rw [if_neg hl]
   match l,h1,hl with
   | [x,y],_,_=>
    dsimp only
    unfold lastP
    by_cases e:x.2.1=y.2.1
    ·have:(x.2.1 != y.2.1)=false:=by simp [e]
     rw [this]
     simp only [Bool.false_eq_true,if_false,Option.isSome_some,true_iff]
     exact .two e
    ·have:(x.2.1 != y.2.1)=true:=by simp [e]
     rw [this]
     simp only [if_true,Option.isSome_none,Bool.false_eq_true,false_iff]
     intro F
     cases F with
     | two h=>exact e h
     | step R _ _=>have:=R.len;simp at this
   | _::_::_::_,_,hl=>exact absurd (by simp) hl
theorem crimpP_perm (x y z:Wd):(crimpP x y z).2.2.Perm (x.2.2++y.2.2++z.2.2):=by
 unfold crimpP
 dsimp only
 split
 ·exact List.Perm.refl _
 ·refine List.perm_append_comm.trans ?_
  rw [List.append_assoc]
  exact List.Perm.append_left _ List.perm_append_comm
noncomputable def wdsP (gs:List Int)(bs:List Bool):List Wd:=(List.range gs.length).map fun k=>(gs.getD k 0,bs.getD k false,[((k:Nat):Int)])
inductive All2 {α β:Type}(R:α->β->Prop):List α->List β->Prop
 | nil:All2 R [] []
 | cons {d:α}{w:β}{ds:List α}{l:List β}:R d w->All2 R ds l->All2 R (d::ds) (w::l)
section
variable {α β:Type}{R R':α->β->Prop}
theorem All2.mono (p:∀ d w,R d w->R' d w){ds:List α}{l:List β}(h:All2 R ds l):All2 R' ds l:=by
 induction h with
 | nil=>exact .nil
 | cons h _ ih=>exact .cons (p _ _ h) ih
theorem All2.len {ds:List α}{l:List β}(h:All2 R ds l):ds.length=l.length:=by
 induction h with
 | nil=>rfl
 | cons h _ ih=>simp [ih]
theorem All2.app {ds ds':List α}{l l':List β}(h:All2 R ds l)(h':All2 R ds' l'):All2 R (ds++ds') (l++l'):=by
 induction h with
 | nil=>exact h'
 | cons h _ ih=>exact .cons h ih
theorem All2.one {d:α}{w:β}(h:R d w):All2 R [d] [w]:=.cons h .nil
theorem All2.drop {ds:List α}{l:List β}(h:All2 R ds l):∀ k,All2 R (ds.drop k) (l.drop k):=by
 induction h with
 | nil=>intro k;simp;exact .nil
 | cons h t ih=>intro k;cases k with
  | zero=>exact .cons h t
  | succ k=>exact ih k
theorem All2.take {ds:List α}{l:List β}(h:All2 R ds l):∀ k,All2 R (ds.take k) (l.take k):=by
 induction h with
 | nil=>intro k;simp;exact .nil
 | cons h t ih=>intro k;cases k with
  | zero=>exact .nil
  | succ k=>exact .cons h (ih k)
theorem All2.get {ds:List α}{l:List β}(h:All2 R ds l):∀ (k:Nat)(d:α),ds[k]? = some d->∃ w,l[k]? = some w/\R d w:=by
 induction h with
 | nil=>intro k d e;simp at e
 | cons h t ih=>intro k d e;cases k with
  | zero=>simp at e;subst e;exact ⟨_,rfl,h⟩
  | succ k=>simp at e;obtain ⟨w,h1,h2⟩:=ih k d e;exact ⟨w,by simpa using h1,h2⟩
theorem All2.map {γ:Type}{f:γ->α}{g:γ->β}:∀ {r:List γ},(∀ k∈r,R (f k) (g k))->All2 R (r.map f) (r.map g)
 | [],_=>.nil
 | a::r,h=>.cons (h a List.mem_cons_self) (All2.map fun k hk=>h k (List.mem_cons_of_mem _ hk))
end
noncomputable def IsW (μ:Hm)(d:D)(w:Wd):Prop:=∃ a,d=.tup [.int w.1,.str (sgn w.2.1),.loc a]/\μ[a]? = some (.lst (w.2.2.map D.int))/\w.2.2≠[]/\w.2.2.length<=8
noncomputable abbrev IsWs (μ:Hm):List D->List Wd->Prop:=All2 (IsW μ)
theorem IsW.mono {μ μ':Hm}(p:μ <+: μ'){d:D}{w:Wd}:IsW μ d w->IsW μ' d w:=fun ⟨a,h1,h2,h3⟩=>⟨a,h1,pre_get p h2,h3⟩
theorem ws_mono {μ μ':Hm}(p:μ <+: μ'){ds:List D}{l:List Wd}(h:IsWs μ ds l):IsWs μ' ds l:=All2.mono (fun _ _=>IsW.mono p) h
theorem ws_rot {μ:Hm}{ds:List D}{l:List Wd}(h:IsWs μ ds l)(k:Nat):IsWs μ (ds.drop k++ds.take k) (rotP l k):=(h.drop k).app (h.take k)
theorem ws_three {μ:Hm}{ds:List D}{x y z:Wd}{r:List Wd}(h:IsWs μ ds (x::y::z::r)):∃ dx dy dz dr,ds=dx::dy::dz::dr/\IsW μ dx x/\IsW μ dy y/\IsW μ dz z/\IsWs μ dr r:=by
 cases h with
 | cons h1 h=>cases h with
  | cons h2 h=>cases h with
   | cons h3 h=>exact ⟨_,_,_,_,rfl,h1,h2,h3,h⟩
theorem ws_two {μ:Hm}{ds:List D}{x y:Wd}(h:IsWs μ ds [x,y]):∃ dx dy,ds=[dx,dy]/\IsW μ dx x/\IsW μ dy y:=by
 cases h with
 | cons h1 h=>cases h with
  | cons h2 h=>cases h;exact ⟨_,_,rfl,h1,h2⟩
theorem w_while {c:MT}{b:MS}{Q:Fl×Rho×Hm->Prop}(I:Nat->Rho->Hm->Prop)
  (hs:∀ m ρ μ,I m ρ μ->W (c ρ μ) fun p=>if p.1=true then W (b ρ p.2) fun q=>match q.1 with
   | .nx=>∃ m',m'<m/\I m' q.2.1 q.2.2
   | .ct=>∃ m',m'<m/\I m' q.2.1 q.2.2
   | .bk=>Q (.nx,q.2.1,q.2.2)
   | .rt d=>Q (.rt d,q.2.1,q.2.2) else Q (.nx,ρ,p.2)):∀ (n m:Nat)(ρ:Rho)(μ:Hm),m<n->I m ρ μ->W (goWhile c b n ρ μ) Q:=by
 intro n
 induction n with
 | zero=>intro m ρ μ h;omega
 | succ n ih=>
  intro m ρ μ hm hI
  unfold goWhile
  rw [W_bind]
  refine W_mono (hs m ρ μ hI) fun p hp=>?_
  obtain ⟨pb,pμ⟩:=p
  cases pb with
  | false=>exact W_some.mpr (by simpa using hp)
  | true=>
   simp only [if_true] at hp
   dsimp only
   rw [W_bind]
   refine W_mono hp fun q hq=>?_
   obtain ⟨fl,qρ,qμ⟩:=q
   cases fl with
   | nx=>obtain ⟨m',h1,h2⟩:=hq;exact ih m' _ _ (by omega) h2
   | ct=>obtain ⟨m',h1,h2⟩:=hq;exact ih m' _ _ (by omega) h2
   | bk=>exact W_some.mpr hq
   | rt d=>exact W_some.mpr hq
theorem w_mWhile {c:MT}{b:MS}{ρ:Rho}{μ:Hm}{Q:Fl×Rho×Hm->Prop}(I:Nat->Rho->Hm->Prop)(m:Nat)(hm:m<1000000000)(h0:I m ρ μ)
  (hs:∀ m ρ μ,I m ρ μ->W (c ρ μ) fun p=>if p.1=true then W (b ρ p.2) fun q=>match q.1 with
   | .nx=>∃ m',m'<m/\I m' q.2.1 q.2.2
   | .ct=>∃ m',m'<m/\I m' q.2.1 q.2.2
   | .bk=>Q (.nx,q.2.1,q.2.2)
   | .rt d=>Q (.rt d,q.2.1,q.2.2) else Q (.nx,ρ,p.2)):W (mWhile wFuel c b ρ μ) Q:=by
 unfold mWhile
 exact w_while I hs wFuel m ρ μ (by unfold wFuel;exact hm) h0
theorem cut_from (xs:List D){j:Int}(h:0<=j/\j<=xs.length):cutD xs (some j) none=xs.drop j.toNat:=by
 unfold cutD
 have e1:HT.sIx xs.length 0 (some j)=j.toNat:=by
  show (if j<0 then (j+(xs.length:Int)).toNat else min j.toNat xs.length)=j.toNat
  rw [if_neg (by omega)];omega
 have e2:HT.sIx xs.length xs.length none=xs.length:=HT.sIx_none _ _
 rw [e1,e2,List.take_of_length_le (by rw [List.length_drop];exact Nat.le_refl _)]
theorem cut_to (xs:List D){j:Int}(h:0<=j/\j<=xs.length):cutD xs none (some j)=xs.take j.toNat:=by
 unfold cutD
 have e1:HT.sIx xs.length 0 none=0:=HT.sIx_none _ _
 have e2:HT.sIx xs.length xs.length (some j)=j.toNat:=by
  show (if j<0 then (j+(xs.length:Int)).toNat else min j.toNat xs.length)=j.toNat
  rw [if_neg (by omega)];omega
 rw [e1,e2,List.drop_zero,Nat.sub_zero]
theorem at_nat {xs:List D}{i:Nat}{d:D}(h:xs[i]? = some d):atI xs (i:Int)=some d:=by
 unfold atI
 rw [ix_ok (by omega) (by have:=(List.getElem?_eq_some_iff.mp h).1;omega),Option.bind_some,show ((i:Int)).toNat=i by omega,h]
theorem sgn_eq (a b:Bool):(sgn a == sgn b)=(a == b):=by cases a<;>cases b<;>kernel_rfl
theorem sgn_v (a:Bool):(sgn a == "v")=a:=by cases a<;>kernel_rfl
theorem w_it30 {a b c:D}{μ:Hm}{Q:D×Hm->Prop}:W (itD (.tup [a,b,c]) (.int 0) μ) Q↔Q (a,μ):=W_some
theorem w_it31 {a b c:D}{μ:Hm}{Q:D×Hm->Prop}:W (itD (.tup [a,b,c]) (.int 1) μ) Q↔Q (b,μ):=W_some
theorem w_it32 {a b c:D}{μ:Hm}{Q:D×Hm->Prop}:W (itD (.tup [a,b,c]) (.int 2) μ) Q↔Q (c,μ):=W_some
theorem s_is_crimp (k:Nat){μ:Hm}{dx dy dz:D}{x y z:Wd}(hx:IsW μ dx x)(hy:IsW μ dy y)(hz:IsW μ dz z)(Q:D×Hm->Prop):W (f (k+1) "is_crimp" [dx,dy,dz] μ) Q↔Q (.bl (crB x y z),μ):=by
 obtain ⟨ax,rfl,_⟩:=hx
 obtain ⟨ay,rfl,_⟩:=hy
 obtain ⟨az,rfl,_⟩:=hz
 rw [ev_p_is_crimp,W_fin]
 simp only [w_mRet,w_mAndV,w_mOp,w_mVar0,w_mVarS,w_mC,w_it30,w_it31,w_leI,w_neS,sgn_eq]
 have e:(!(y.2.1 == z.2.1))=(y.2.1 != z.2.1):=rfl
 rw [e]
 unfold crB
 cases decide (y.1<=x.1)<;>cases decide (y.1<=z.1)<;>simp
theorem s_is_turned_part (k:Nat){μ:Hm}{dx:D}{x:Wd}(hx:IsW μ dx x)(Q:D×Hm->Prop):W (f (k+1) "is_turned_part" [dx] μ) Q↔Q (.bl (turnB x),μ):=by
 obtain ⟨ax,rfl,hx,hne,_⟩:=hx
 obtain ⟨g,m,os⟩:=x
 dsimp only at *
 cases os with
 | nil=>exact absurd rfl hne
 | cons o os=>
  rw [ev_p_is_turned_part,W_fin]
  have h0:atI ((o::os).map D.int) 0=some (.int o):=at_zero
  simp only [w_mRet,w_mOp,w_mVar0,w_mVarS,w_mC,w_it32,w_itL hx h0,w_mod2,w_eqI]
  rfl
theorem s_crimped (k:Nat){μ:Hm}{dx dy dz:D}{x y z:Wd}(hx:IsW μ dx x)(hy:IsW μ dy y)(hz:IsW μ dz z)(hl:x.2.2.length+y.2.2.length+z.2.2.length<=8)(Q:D×Hm->Prop)
  (H:∀ d μ',μ <+: μ'->IsW μ' d (crimpP x y z)->Q (d,μ')):W (f (k+2) "crimped" [dx,dy,dz] μ) Q:=by
 have hy':=hy
 obtain ⟨ax,rfl,hx,nx,lx⟩:=hx
 obtain ⟨ay,rfl,hy,ny,ly⟩:=hy
 obtain ⟨az,rfl,hz,nz,lz⟩:=hz
 rw [ev_p_crimped,W_fin]
 simp only [w_mSeq,w_mSet,w_mIfS,w_mTest,w_mOp,w_mVar0,w_mVarS,w_mC,w_it30,w_it31,w_subI,w_addI,List.set_cons_zero,List.set_cons_succ,w_eqS,sgn_v,w_mCall,w_mCons,w_mNil,s_is_turned_part k hy',w_eqB]
 by_cases c:(y.2.1 == turnB y)=true
 ·simp only [c,if_true,w_mRet,w_mTup,w_mCons,w_mNil,w_mOp,w_mVar0,w_mVarS,w_mC,w_it31,w_it32]
  refine (w_addL hx hy (by rw [List.length_map,List.length_map,sizeLine_eq];omega)).mpr ?_
  have p1:=pre_snoc μ (C.lst (x.2.2.map D.int++y.2.2.map D.int))
  refine (w_addL (get_last _ _) (pre_get p1 hz) (by rw [List.length_append,List.length_map,List.length_map,List.length_map,sizeLine_eq];omega)).mpr ?_
  refine ⟨by show (3:Nat)<=sizeLine;decide,?_⟩
  refine H _ _ (p1.trans (pre_snoc _ _)) ⟨_,rfl,?_,?_,?_⟩
  ·rw [get_last]
   unfold crimpP
   simp only [c,if_true,List.map_append]
  ·unfold crimpP
   simp only [c,if_true]
   intro e
   exact nx (List.append_eq_nil_iff.mp (List.append_eq_nil_iff.mp e).1).1
  ·unfold crimpP
   simp only [c,if_true,List.length_append]
   omega
 ·have c':(y.2.1 == turnB y)=false:=by simpa using c
  simp only [c',Bool.false_eq_true,if_false,w_mNext,w_mRet,w_mTup,w_mCons,w_mNil,w_mOp,w_mVar0,w_mVarS,w_mC,w_it31,w_it32]
  refine (w_addL hz hy (by rw [List.length_map,List.length_map,sizeLine_eq];omega)).mpr ?_
  have p1:=pre_snoc μ (C.lst (z.2.2.map D.int++y.2.2.map D.int))
  refine (w_addL (get_last _ _) (pre_get p1 hx) (by rw [List.length_append,List.length_map,List.length_map,List.length_map,sizeLine_eq];omega)).mpr ?_
  refine ⟨by show (3:Nat)<=sizeLine;decide,?_⟩
  refine H _ _ (p1.trans (pre_snoc _ _)) ⟨_,rfl,?_,?_,?_⟩
  ·rw [get_last]
   unfold crimpP
   simp only [c',Bool.false_eq_true,if_false,List.map_append]
  ·unfold crimpP
   simp only [c',Bool.false_eq_true,if_false]
   intro e
   exact nz (List.append_eq_nil_iff.mp (List.append_eq_nil_iff.mp e).1).1
  ·unfold crimpP
   simp only [c',Bool.false_eq_true,if_false,List.length_append]
   omega
noncomputable def IsO (μ μ':Hm)(d:D):Option (List Int)->Prop
 | none=>d=.non
 | some os=>∃ a,d=.loc a/\μ.length<=a/\μ'[a]? = some (.lst (os.map D.int))
theorem s_last_two (k:Nat){μ:Hm}{dx dy:D}{x y:Wd}(hx:IsW μ dx x)(hy:IsW μ dy y)(Q:D×Hm->Prop)
  (H:∀ d μ',μ <+: μ'->IsO μ μ' d (lastP x y)->Q (d,μ')):W (f (k+2) "last_two" [dx,dy] μ) Q:=by
 have hx':=hx
 obtain ⟨ax,rfl,hx,nx,lx⟩:=hx
 obtain ⟨ay,rfl,hy,ny,ly⟩:=hy
 rw [ev_p_last_two,W_fin]
 simp only [w_mSeq,w_mIfS,w_mTest,w_mOp,w_mVar0,w_mVarS,w_mC,w_it31,w_neS,sgn_eq]
 have e0:(!(x.2.1 == y.2.1))=(x.2.1 != y.2.1):=rfl
 rw [e0]
 unfold lastP at H
 by_cases c:(x.2.1 != y.2.1)=true
 ·simp only [c,if_true,w_mRet,w_mC] at H ⊢
  exact H _ _ (List.prefix_refl _) rfl
 ·have c':(x.2.1 != y.2.1)=false:=by simpa using c
  simp only [c',Bool.false_eq_true,if_false,w_mNext,w_mTest,w_mOp,w_mVar0,w_mVarS,w_mC,w_it31,w_eqS,sgn_v,w_mCall,w_mCons,w_mNil,s_is_turned_part k hx',w_eqB] at H ⊢
  by_cases t:(x.2.1 == turnB x)=true
  ·simp only [t,if_true,w_mRet,w_mOp,w_mVar0,w_mVarS,w_mC,w_it32] at H ⊢
   refine (w_addL hy hx (by rw [List.length_map,List.length_map,sizeLine_eq];omega)).mpr ?_
   exact H _ _ (pre_snoc _ _) ⟨_,rfl,Nat.le_refl _,by rw [get_last,List.map_append]⟩
  ·have t':(x.2.1 == turnB x)=false:=by simpa using t
   simp only [t',Bool.false_eq_true,if_false,w_mNext,w_mRet,w_mOp,w_mVar0,w_mVarS,w_mC,w_it32] at H ⊢
   refine (w_addL hx hy (by rw [List.length_map,List.length_map,sizeLine_eq];omega)).mpr ?_
   exact H _ _ (pre_snoc _ _) ⟨_,rfl,Nat.le_refl _,by rw [get_last,List.map_append]⟩
theorem find_at {l:List Wd}{i:Nat}(hi:i<l.length)(h:headP (rotP l i)=true)(hn:∀ j,j<i->headP (rotP l j)=false):aheadP l=some (rotP l i):=by
 unfold aheadP
 have:(List.range l.length).find? (fun k=>headP (rotP l k))=some i:=by
  rw [List.find?_range_eq_some]
  exact ⟨h,List.mem_range.mpr hi,fun j hj=>by rw [hn j hj];rfl⟩
 rw [this];rfl
theorem find_no {l:List Wd}(hn:∀ j,j<l.length->headP (rotP l j)=false):aheadP l=none:=by
 unfold aheadP
 rw [List.find?_eq_none.mpr fun k hk=>by rw [hn k (List.mem_range.mp hk)];simp]
 rfl
noncomputable def IsA (μ':Hm)(d:D):Option (List Wd)->Prop
 | none=>d=.non
 | some l=>∃ a ds,d=.loc a/\μ'[a]? = some (.lst ds)/\IsWs μ' ds l
theorem s_brought_ahead (k:Nat){μ:Hm}{a:Nat}{ds:List D}{l:List Wd}(ha:μ[a]? = some (.lst ds))(hw:IsWs μ ds l)(hl:3<=l.length/\l.length<=8)(Q:D×Hm->Prop)
  (H:∀ d μ',μ <+: μ'->IsA μ' d (aheadP l)->Q (d,μ')):W (f (k+2) "brought_ahead" [.loc a] μ) Q:=by
 have hlen:=hw.len
 rw [ev_p_brought_ahead,W_fin]
 simp only [w_mSeq,w_mForI,w_iRng1 (j:=0),w_mCall,w_mCons,w_mNil,w_mVar0]
 refine (w_lenL ha).mpr ?_
 refine ⟨by omega,?_⟩
 rw [hlen,show ((l.length:Nat):Int).toNat=l.length by omega]
 refine w_forR (lo:=0) (fun i ρ μ'=>μ <+: μ'/\(∀ j,j<i->headP (rotP l j)=false)/\∃ o1 o2,ρ=[some (.loc a),o1,o2]) ⟨List.prefix_refl _,fun j hj=>absurd hj (Nat.not_lt_zero _),none,none,rfl⟩ ?_ ?_
 ·rintro i ρ μ' hi ⟨hp,hN,o1,o2,rfl⟩
  refine ⟨_,rfl,?_⟩
  rw [show (0:Int)+(i:Int)=(i:Int) by omega]
  simp only [List.set_cons_zero,List.set_cons_succ,w_mSeq,w_mSet,w_mOp]
  have ha1:=pre_get hp ha
  refine w_sliceL ?_
  simp only [w_mVar0]
  refine ⟨a,rfl,?_⟩
  simp only [w_mNoPart,w_mPart,w_mVar0,w_mVarS]
  refine ⟨_,ha1,?_⟩
  rw [cut_from ds (show 0<=(i:Int)/\(i:Int)<=ds.length by omega)]
  refine w_sliceL ?_
  simp only [w_mVar0]
  refine ⟨a,rfl,?_⟩
  simp only [w_mNoPart,w_mPart,w_mVar0,w_mVarS]
  refine ⟨_,pre_get (pre_snoc _ _) ha1,?_⟩
  rw [cut_to ds (show 0<=(i:Int)/\(i:Int)<=ds.length by omega),show ((i:Int)).toNat=i by omega]
  refine (w_addL (pre_get (pre_snoc _ _) (get_last _ _)) (get_last _ _) (by rw [List.length_drop,List.length_take,sizeLine_eq];omega)).mpr ?_
  have p3:μ' <+: μ'++[C.lst (ds.drop i)]++[C.lst (ds.take i)]++[C.lst (ds.drop i++ds.take i)]:=(pre_snoc _ _).trans ((pre_snoc _ _).trans (pre_snoc _ _))
  have g3:=get_last (μ'++[C.lst (ds.drop i)]++[C.lst (ds.take i)]) (C.lst (ds.drop i++ds.take i))
  generalize (μ'++[C.lst (ds.drop i)]++[C.lst (ds.take i)]).length=c at g3 ⊢
  generalize μ'++[C.lst (ds.drop i)]++[C.lst (ds.take i)]++[C.lst (ds.drop i++ds.take i)]=μ3 at p3 g3 ⊢
  have hr:=ws_rot (ws_mono (hp.trans p3) hw) i
  have hrl:(rotP l i).length=l.length:=by unfold rotP;rw [List.length_append,List.length_drop,List.length_take];omega
  generalize hR:rotP l i=R at hr hrl
  generalize ds.drop i++ds.take i=es at g3 hr
  match R,hrl,hr,hR with
  | x::y::z::r,hrl,hr,hR=>
   obtain ⟨dx,dy,dz,dr,rfl,hx,hy,hz,hdr⟩:=ws_three hr
   have hh:headP (rotP l i)=crB x y z:=by rw [hR];rfl
   simp only [List.set_cons_zero,List.set_cons_succ,w_mIfS,w_mTru,w_mCall,w_mCons,w_mNil,w_mOp,w_mVar0,w_mVarS,w_mC]
   refine (w_itL g3 (at_nat (i:=0) (d:=dx) rfl)).mpr ?_
   refine (w_itL g3 (at_nat (i:=1) (d:=dy) rfl)).mpr ?_
   refine (w_itL g3 (at_nat (i:=2) (d:=dz) rfl)).mpr ?_
   rw [s_is_crimp k hx hy hz]
   simp only [w_truB]
   cases hc:crB x y z with
   | true=>
    simp only [if_true,w_mRet,w_mVar0,w_mVarS]
    refine H _ _ (hp.trans p3) ?_
    rw [find_at hi (by rw [hh,hc]) hN,hR]
    exact ⟨c,_,rfl,g3,hr⟩
   | false=>
    simp only [Bool.false_eq_true,if_false,w_mNext]
    refine ⟨hp.trans p3,fun j hj=>?_,_,_,rfl⟩
    by_cases h:j<i
    ·exact hN j h
    ·have:j=i:=by omega
     subst this
     rw [hh,hc]
  | [],hrl,_,_=>simp at hrl;omega
  | [_],hrl,_,_=>simp at hrl;omega
  | [_,_],hrl,_,_=>simp at hrl;omega
 ·rintro ρ μ' ⟨hp,hN,o1,o2,rfl⟩
  simp only [w_mRet,w_mC]
  refine H _ _ hp ?_
  rw [find_no hN]
  rfl
theorem str_at {bs:List Bool}{i:Nat}(hi:i<bs.length):atI ((mStr bs).cps.toList) (i:Int)=some (cpv (bs.getD i false)):=by
 unfold atI mStr
 have:((bs.map cpv).toArray.toList).length=bs.length:=by simp
 dsimp only
 rw [ix_ok (by omega) (by rw [this];omega)]
 simp [List.getD,hi]
theorem w_itM {bs:List Bool}{i:Int}{μ:Hm}{Q:D×Hm->Prop}(hl:bs.length<=8)(hi:0<=i/\i<bs.length):W (itD (.str (mStr bs)) (.int i) μ) Q↔Q (.str (sgn (bs.getD i.toNat false)),μ):=by
 have:=str_at (bs:=bs) (i:=i.toNat) (by omega)
 rw [show ((i.toNat:Nat):Int)=i by omega] at this
 rw [w_itSt (by show (mStr bs).length<=sizeLine;rw [mStr_len,sizeLine_eq];omega) this,<- sgn_is]
theorem s_wedges_by (k:Nat){μ:Hm}{a:Nat}{gs:List Int}{bs:List Bool}(ha:μ[a]? = some (.lst (gs.map D.int)))(hg:gs.length<=8)(hb:bs.length=gs.length)(Q:D×Hm->Prop)
  (H:∀ b ds μ',μ <+: μ'->μ'[b]? = some (.lst ds)->IsWs μ' ds (wdsP gs bs)->Q (.loc b,μ')):W (f (k+1) "wedges_by" [.loc a,.str (mStr bs)] μ) Q:=by
 rw [ev_p_wedges_by,W_fin]
 simp only [w_mRet]
 refine w_compI ?_
 refine w_iEnum ?_
 simp only [w_mCons,w_mNil,w_mVar0]
 refine ⟨a,_,rfl,ha,?_⟩
 let dk:Nat->D:=fun j=>.tup [.int (gs.getD j 0),.str (sgn (bs.getD j false)),.loc (μ.length+1+j)]
 refine ⟨gs.length,fun i ys μ'=>ys=(List.range i).map dk/\μ <+: μ'/\μ'.length=μ.length+1+i/\∀ j,j<i->μ'[μ.length+1+j]? = some (.lst [.int ((j:Nat):Int)]),by rw [List.length_map],by rw [sizeLine_eq];omega,?_,?_,?_,?_⟩
 ·rintro i ys μ' ⟨rfl,_⟩;simp
 ·exact ⟨rfl,pre_snoc _ _,by simp,fun j hj=>absurd hj (Nat.not_lt_zero _)⟩
 ·rintro i ys μ' hi ⟨rfl,hp,hln,hc⟩ hcell
  have hgi:(gs.map D.int)[i]? = some (.int (gs.getD i 0)):=by
   rw [List.getElem?_map,List.getElem?_eq_getElem hi]
   simp [List.getD,hi]
  refine ⟨.tup [.int (i:Int),.int (gs.getD i 0)],[some (.int (i:Int)),some (.int (gs.getD i 0))],?_,rfl,?_⟩
  ·rw [src_enum ha μ' i hp,numD_get,hgi]
   simp
  ·rw [w_mTrue]
   refine ⟨fun h=>(by cases h),fun _=>?_⟩
   simp only [List.cons_append,List.nil_append,w_mTup,w_mCons,w_mNil,w_mOp,w_mVar0,w_mVarS,w_mLst]
   rw [w_itM (by omega) (by omega)]
   refine ⟨len1,by show (3:Nat)<=sizeLine;decide,pre_get (pre_snoc _ _) hcell,?_,pre_set (hp.trans (pre_snoc _ _)) (Nat.le_refl _) _,by rw [List.length_set,List.length_append,hln];rfl,fun j hj=>?_⟩
   ·rw [List.range_succ,List.map_append,show ((i:Int)).toNat=i by omega,hln]
    rfl
   ·rw [List.getElem?_set_ne (by omega)]
    by_cases h:j<i
    ·exact pre_get (pre_snoc _ _) (hc j h)
    ·have:j=i:=by omega
     subst this
     rw [<- hln,get_last]
 ·rintro ys μ' ⟨rfl,hp,hln,hc⟩ hcell
  refine ⟨?_,H _ _ _ hp hcell ?_⟩
  ·rw [src_enum ha μ' _ hp,numD_get]
   simp
  ·unfold wdsP
   refine All2.map fun j hj=>?_
   have hj:=List.mem_range.mp hj
   exact ⟨_,rfl,by rw [hc j hj];rfl,by simp,by simp⟩
noncomputable def lenSum (l:List Wd):Nat:=(l.map fun w=>w.2.2.length).sum
theorem lenSum_rot {l l':List Wd}(R:Rot l l'):lenSum l=lenSum l':=by
 obtain ⟨u,v,rfl,rfl⟩:=R
 unfold lenSum;simp;omega
theorem lenSum_crimp (x y z:Wd)(r:List Wd):lenSum (crimpP x y z::r)=lenSum (x::y::z::r):=by
 have:(crimpP x y z).2.2.length=x.2.2.length+y.2.2.length+z.2.2.length:=by rw [(crimpP_perm x y z).length_eq];simp [Nat.add_assoc]
 unfold lenSum
 simp only [List.map_cons,List.sum_cons,this]
 omega
theorem lenSum_wds (gs:List Int)(bs:List Bool):lenSum (wdsP gs bs)=gs.length:=by
 unfold lenSum wdsP
 rw [List.map_map]
 have:((List.range gs.length).map ((fun w:Wd=>w.2.2.length) ∘ fun k=>(gs.getD k 0,bs.getD k false,[((k:Nat):Int)])))=(List.range gs.length).map fun _=>1:=rfl
 rw [this]
 have one:∀ r:List Nat,(r.map fun _=>1).sum=r.length:=fun r=>by
  induction r with
  | nil=>rfl
  | cons a r ih=>rw [List.map_cons,List.sum_cons,ih,List.length_cons,Nat.add_comm]
 rw [one,List.length_range]
theorem foldP_more {t:Nat}{l:List Wd}(h:2<l.length):foldP (t+1) l=match aheadP l with
  | some (x::y::z::r)=>foldP t (crimpP x y z::r)
  | _=>none:=by
 conv=>lhs;unfold foldP
 rw [if_pos h]
 all_goals (generalize aheadP l=o;rcases o with _|(_|⟨_,_|⟨_,_|⟨_,_⟩⟩⟩)<;>rfl)
theorem s_folded_order (k:Nat){μ:Hm}{a:Nat}{gs:List Int}{bs:List Bool}(ha:μ[a]? = some (.lst (gs.map D.int)))(hG:GoodG gs)(hb:bs.length=gs.length)(Q:D×Hm->Prop)
  (H:∀ d μ',μ <+: μ'->IsO μ μ' d (foldP 4 (wdsP gs bs))->Q (d,μ')):W (f (k+3) "folded_order" [.loc a,.str (mStr bs)] μ) Q:=by
 have hl:=hG.len
 have hrg:=hG.rgl
 rw [ev_p_folded_order,W_fin]
 simp only [w_mSeq,w_mSet,w_mCall,w_mCons,w_mNil,w_mVar0,w_mVarS]
 refine s_wedges_by _ ha (by omega) hb _ fun b ds μ1 p1 g1 W1=>?_
 simp only [List.set_cons_zero,List.set_cons_succ]
 have hwl:(wdsP gs bs).length=gs.length:=by unfold wdsP;simp
 refine w_mWhile (fun m ρ μ'=>μ <+: μ'/\m<=4/\∃ b ds l o,ρ=[some (.loc a),some (.str (mStr bs)),some (.loc b),o]/\μ'[b]? = some (.lst ds)/\IsWs μ' ds l/\l.length % 2=0/\2<=l.length/\l.length<=2 * m/\lenSum l<=8/\foldP m l=foldP 4 (wdsP gs bs)) 4 (by decide)
  ⟨p1,Nat.le_refl _,b,ds,wdsP gs bs,none,rfl,g1,W1,by omega,by omega,by omega,by rw [lenSum_wds];omega,rfl⟩ ?_
 rintro m ρ μ' ⟨hp,hm4,b,ds,l,o,rfl,hg,hw,he,h2,ht,hs,hf⟩
 have hlen:=hw.len
 obtain ⟨t,rfl⟩:∃ t,m=t+1:=⟨m - 1,by omega⟩
 simp only [w_mTest,w_mOp,w_mCall,w_mCons,w_mNil,w_mVar0,w_mVarS,w_mC]
 refine (w_lenL hg).mpr ?_
 simp only [w_gtI]
 by_cases h3:2<l.length
 ·have e:decide ((2:Int)<(ds.length:Int))=true:=decide_eq_true (by omega)
  simp only [e,if_true,w_mSeq,w_mSet,w_mCall,w_mCons,w_mNil,w_mVar0,w_mVarS]
  refine s_brought_ahead _ hg hw ⟨by omega,by omega⟩ _ fun d μ2 p2 A=>?_
  rw [foldP_more h3] at hf
  cases hA:aheadP l with
  | none=>
   rw [hA] at A hf
   have A:d=.non:=A
   subst A
   simp only [List.set_cons_zero,List.set_cons_succ,w_mIfS,w_mTest,w_mOp,w_mVar0,w_mVarS,w_mC,w_isNN,if_true,w_mRet]
   refine H _ _ (hp.trans p2) ?_
   rw [<- hf]
   rfl
  | some l'=>
   rw [hA] at A hf
   obtain ⟨c,es,rfl,gc,hes⟩:=A
   obtain ⟨R,x,y,z,r,rfl,hc⟩:=aheadP_some hA
   have hrl:=R.len
   simp only [List.length_cons] at hrl
   have hls:=lenSum_rot R
   have hsum:x.2.2.length+y.2.2.length+z.2.2.length<=8:=by
    unfold lenSum at hls hs
    simp only [List.map_cons,List.sum_cons] at hls
    omega
   obtain ⟨dx,dy,dz,dr,rfl,hx,hy,hz,hdr⟩:=ws_three hes
   have hdl:=hdr.len
   simp only [List.set_cons_zero,List.set_cons_succ,w_mIfS,w_mTest,w_mOp,w_mVar0,w_mVarS,w_mC,w_isLN,Bool.false_eq_true,if_false,w_mNext,w_mSet,w_mLst,w_mCons,w_mNil,w_mCall]
   refine (w_itL gc (at_nat (i:=0) (d:=dx) rfl)).mpr ?_
   refine (w_itL gc (at_nat (i:=1) (d:=dy) rfl)).mpr ?_
   refine (w_itL gc (at_nat (i:=2) (d:=dz) rfl)).mpr ?_
   refine s_crimped _ hx hy hz hsum _ fun d3 μ3 p3 h3w=>?_
   refine ⟨len1,?_⟩
   refine w_sliceL ?_
   simp only [w_mVar0,w_mVarS]
   refine ⟨c,rfl,?_⟩
   simp only [w_mNoPart,w_mPart,w_mC]
   refine ⟨_,pre_get (p3.trans (pre_snoc _ _)) gc,?_⟩
   rw [cut_from (dx::dy::dz::dr) (show (0:Int)<=3/\(3:Int)<=(dx::dy::dz::dr).length by simp only [List.length_cons];omega)]
   have e3:(dx::dy::dz::dr).drop (3:Int).toNat=dr:=rfl
   rw [e3]
   refine (w_addL (pre_get (pre_snoc _ _) (get_last _ _)) (get_last _ _) (by rw [sizeLine_eq];simp only [List.length_cons,List.length_nil];omega)).mpr ?_
   have q4:μ2 <+: μ3++[C.lst [d3]]++[C.lst dr]++[C.lst ([d3]++dr)]:=p3.trans ((pre_snoc _ _).trans ((pre_snoc _ _).trans (pre_snoc _ _)))
   have q3:μ3 <+: μ3++[C.lst [d3]]++[C.lst dr]++[C.lst ([d3]++dr)]:=(pre_snoc _ _).trans ((pre_snoc _ _).trans (pre_snoc _ _))
   refine ⟨t,Nat.lt_succ_self _,hp.trans (p2.trans q4),by omega,_,_,crimpP x y z::r,_,rfl,get_last _ _,.cons (h3w.mono q3) (ws_mono q4 hdr),by simp only [List.length_cons];omega,by simp only [List.length_cons];omega,by simp only [List.length_cons];omega,by rw [lenSum_crimp];omega,hf⟩
 ·have e:decide ((2:Int)<(ds.length:Int))=false:=decide_eq_false (by omega)
  simp only [e,Bool.false_eq_true,if_false,w_mRet,w_mCall,w_mCons,w_mNil,w_mOp,w_mVar0,w_mVarS,w_mC]
  match l,h2,h3,hw,hf with
  | [x,y],_,_,hw,hf=>
   obtain ⟨dx,dy,rfl,hx,hy⟩:=ws_two hw
   refine (w_itL hg (at_nat (i:=0) (d:=dx) rfl)).mpr ?_
   refine (w_itL hg (at_nat (i:=1) (d:=dy) rfl)).mpr ?_
   refine s_last_two _ hx hy _ fun d μ2 p2 O=>?_
   refine H _ _ (hp.trans p2) ?_
   rw [<- hf]
   have:foldP (t+1) [x,y]=lastP x y:=by unfold foldP;rw [if_neg (by simp)]
   rw [this]
   have hpl:=pre_len hp
   cases hL:lastP x y with
   | none=>rw [hL] at O;exact O
   | some os=>
    rw [hL] at O
    obtain ⟨b',h1,h2,h3⟩:=O
    exact ⟨b',h1,Nat.le_trans hpl h2,h3⟩
  | _::_::_::_,_,h3,_,_=>exact absurd (by simp) h3
noncomputable def rotN {α:Type}(l:List α)(j:Nat):List α:=l.drop j++l.take j
theorem rotN_get {α:Type}(l:List α){j i:Nat}(hj:j<=l.length)(hi:i<l.length):(rotN l j)[i]? = l[(j+i) % l.length]?:=by
 unfold rotN
 rw [List.getElem?_append,List.length_drop]
 split
 ·rename_i h
  rw [List.getElem?_drop,Nat.mod_eq_of_lt (by omega)]
 ·rename_i h
  rw [List.getElem?_take,if_pos (by omega)]
  congr 1
  rw [Nat.mod_eq_sub_mod (by omega),Nat.mod_eq_of_lt (by omega)]
  omega
theorem rotN_Rot {α:Type}(l:List α)(j:Nat):Rot l (rotN l j):=⟨l.take j,l.drop j,by simp,rfl⟩
theorem rotN_three {α:Type}{l:List α}{k:Nat}(hk:k<l.length)(h3:3<=l.length){x y z:α}(hx:l[(k+(l.length - 1)) % l.length]? = some x)(hy:l[k]? = some y)(hz:l[(k+1) % l.length]? = some z) :
  ∃ r,rotN l ((k+(l.length - 1)) % l.length)=x::y::z::r:=by
 have hj:(k+(l.length - 1)) % l.length<l.length:=Nat.mod_lt _ (by omega)
 have e0:=rotN_get l (i:=0) (Nat.le_of_lt hj) (by omega)
 have e1:=rotN_get l (i:=1) (Nat.le_of_lt hj) (by omega)
 have e2:=rotN_get l (i:=2) (Nat.le_of_lt hj) (by omega)
 rw [Nat.add_zero,Nat.mod_eq_of_lt hj,hx] at e0
 have a1:((k+(l.length - 1)) % l.length+1) % l.length=k:=by
  rw [Nat.mod_add_mod,show k+(l.length - 1)+1=k+l.length by omega,Nat.add_mod_right,Nat.mod_eq_of_lt hk]
 have a2:((k+(l.length - 1)) % l.length+2) % l.length=(k+1) % l.length:=by
  rw [Nat.mod_add_mod,show k+(l.length - 1)+2=k+1+l.length by omega,Nat.add_mod_right]
 rw [a1,hy] at e1
 rw [a2,hz] at e2
 generalize rotN l ((k+(l.length - 1)) % l.length)=m at e0 e1 e2
 match m,e0,e1,e2 with
 | a::b::c::r,e0,e1,e2=>
  simp at e0 e1 e2
  subst e0 e1 e2
  exact ⟨r,rfl⟩
theorem rot_index {α:Type}{l r:List α}{x y z:α}(R:Rot l (x::y::z::r)):∃ k,k<l.length/\l[(k+(l.length - 1)) % l.length]? = some x/\l[k]? = some y/\l[(k+1) % l.length]? = some z:=by
 have hlen:=R.len
 obtain ⟨u,v,h1,h2⟩:=R
 have hl:l.length=u.length+v.length:=by rw [h1];simp
 have h3:3<=l.length:=by rw [hlen];simp
 have hr:rotN l u.length=x::y::z::r:=by
  unfold rotN;rw [h1,h2];simp
 have hu:u.length<=l.length:=by omega
 have e0:=rotN_get l (i:=0) hu (by omega)
 have e1:=rotN_get l (i:=1) hu (by omega)
 have e2:=rotN_get l (i:=2) hu (by omega)
 rw [hr] at e0 e1 e2
 refine ⟨(u.length+1) % l.length,Nat.mod_lt _ (by omega),?_,by rw [<- e1];rfl,?_⟩
 ·rw [Nat.mod_add_mod,show u.length+1+(l.length - 1)=u.length+0+l.length by omega,Nat.add_mod_right,<- e0];rfl
 ·rw [Nat.mod_add_mod,show u.length+1+1=u.length+2 by omega,<- e2];rfl
noncomputable def gmI (M:List Bool)(p:Int×Int):Gm:=(p.1,M.getD p.2.toNat false)
noncomputable def joinP (x y z:Int×Int):Int×Int:=(x.1+z.1 - y.1,x.2)
theorem gmI_join (M:List Bool)(x y z:Int×Int):gmI M (joinP x y z)=cjG (gmI M x) (gmI M y) (gmI M z):=gm_ext (by show x.1+z.1 - y.1=x.1 - y.1+z.1;omega) rfl
noncomputable def Agree (l:List (Int×Int))(bs bs':List Bool):Prop:=∀ i:Nat,(∀ p∈l,p.2≠(i:Int))->bs'.getD i false=bs.getD i false
structure Rw (init l:List (Int×Int))(bs:List Bool)(n:Nat):Prop where
 ev:l.length % 2=0
 two:2<=l.length
 le:l.length<=8
 ix:∀ p∈l,0<=p.2/\p.2<n
 nd:(l.map (·.2)).Nodup
 len:bs.length=n
 back:∀ bs',bs'.length=n->Agree l bs bs'->Fo (l.map (gmI bs'))->Fo (init.map (gmI bs'))
theorem Rot.mem {α:Type}{l l':List α}(R:Rot l l'){x:α}:x∈l↔x∈l':=by
 obtain ⟨u,v,rfl,rfl⟩:=R
 simp [or_comm]
theorem Rot.perm {α:Type}{l l':List α}(R:Rot l l'):l.Perm l':=by
 obtain ⟨u,v,rfl,rfl⟩:=R
 exact List.perm_append_comm
theorem getD_set_ne {bs:List Bool}{i j:Nat}{b:Bool}(h:i≠j):(bs.set i b).getD j false=bs.getD j false:=by
 simp [List.getD,List.getElem?_set_ne h]
theorem getD_set_self {bs:List Bool}{i:Nat}{b:Bool}(h:i<bs.length):(bs.set i b).getD i false=b:=by
 simp [List.getD,List.getElem?_set_self h]
theorem Rw.step {init l r:List (Int×Int)}{x y z:Int×Int}{bs:List Bool}{n:Nat}(h:Rw init l bs n)(R:Rot l (x::y::z::r))(h1:y.1<=x.1)(h2:y.1<=z.1)(b:Bool) :
  Rw init (joinP x y z::r) ((bs.set y.2.toNat b).set z.2.toNat (!b)) n:=by
 have hl:=R.len
 simp only [List.length_cons] at hl
 have ev:=h.ev
 have le:=h.le
 have hnd:((x::y::z::r).map (·.2)).Nodup:=(R.perm.map _).nodup_iff.mp h.nd
 simp only [List.map_cons,List.nodup_cons,List.mem_cons,List.mem_map,not_or,not_exists,not_and] at hnd
 obtain ⟨⟨n1,n2,n3⟩,⟨n4,n5⟩,n6,n7⟩:=hnd
 have my:y∈l:=R.mem.mpr (by simp)
 have mz:z∈l:=R.mem.mpr (by simp)
 have iy:=h.ix y my
 have iz:=h.ix z mz
 have hyz:y.2.toNat≠z.2.toNat:=fun e=>n4 (by omega)
 refine ⟨by simp only [List.length_cons];omega,by simp only [List.length_cons];omega,by simp only [List.length_cons];omega,fun p hp=>?_,?_,by simp [h.len],fun bs' hl' A F=>?_⟩
 ·rcases List.mem_cons.mp hp with rfl|hp
  ·exact h.ix x (R.mem.mpr (by simp))
  ·exact h.ix p (R.mem.mpr (by simp [hp]))
 ·simp only [List.map_cons,List.nodup_cons,List.mem_map,not_exists,not_and]
  exact ⟨fun p hp=>n3 p hp,n7⟩
 ·have vy:bs'.getD y.2.toNat false=b:=by
   rw [A y.2.toNat fun p hp=>?_,getD_set_ne (Ne.symm hyz),getD_set_self (by rw [h.len];omega)]
   rcases List.mem_cons.mp hp with rfl|hp
   ·show x.2≠_;rw [show ((y.2.toNat:Nat):Int)=y.2 by omega];exact n1
   ·rw [show ((y.2.toNat:Nat):Int)=y.2 by omega];exact n5 p hp
  have vz:bs'.getD z.2.toNat false = !b:=by
   rw [A z.2.toNat fun p hp=>?_,getD_set_self (by rw [List.length_set,h.len];omega)]
   rcases List.mem_cons.mp hp with rfl|hp
   ·show x.2≠_;rw [show ((z.2.toNat:Nat):Int)=z.2 by omega];exact n2
   ·rw [show ((z.2.toNat:Nat):Int)=z.2 by omega];exact n6 p hp
  refine h.back bs' hl' (fun i hi=>?_) ?_
  ·rw [A i fun p hp=>?_,getD_set_ne fun e=>hi z mz (by omega),getD_set_ne fun e=>hi y my (by omega)]
   rcases List.mem_cons.mp hp with rfl|hp
   ·exact hi x (R.mem.mpr (by simp))
   ·exact hi p (R.mem.mpr (by simp [hp]))
  ·have R':=R.map (gmI bs')
   simp only [List.map_cons] at R' F
   rw [gmI_join] at F
   refine .step R' ⟨h1,h2,?_⟩ F
   show bs'.getD y.2.toNat false≠bs'.getD z.2.toNat false
   rw [vy,vz]
   cases b<;>simp
theorem Rw.last {init:List (Int×Int)}{p q:Int×Int}{bs:List Bool}{n:Nat}(h:Rw init [p,q] bs n)(c:Bool):Fo (init.map (gmI ((bs.set p.2.toNat c).set q.2.toNat c))):=by
 have ip:=h.ix p (by simp)
 have iq:=h.ix q (by simp)
 refine h.back _ (by simp [h.len]) (fun i hi=>?_) ?_
 ·have a:=hi p (by simp)
  have b:=hi q (by simp)
  rw [getD_set_ne (by omega),getD_set_ne (by omega)]
 ·refine .two ?_
  show ((bs.set p.2.toNat c).set q.2.toNat c).getD p.2.toNat false=((bs.set p.2.toNat c).set q.2.toNat c).getD q.2.toNat false
  rw [getD_set_self (i:=q.2.toNat) (by rw [List.length_set,h.len];omega)]
  by_cases e:q.2.toNat=p.2.toNat
  ·rw [e,getD_set_self (by rw [List.length_set,h.len];omega)]
  ·rw [getD_set_ne e,getD_set_self (by rw [h.len];omega)]
noncomputable def numP (gs:List Int):List (Int×Int):=(List.range gs.length).map fun k=>(gs.getD k 0,((k:Nat):Int))
theorem numP_gm (gs:List Int)(bs:List Bool):(numP gs).map (gmI bs)=(wdsP gs bs).map gm:=by
 unfold numP wdsP
 rw [List.map_map,List.map_map]
 refine List.map_congr_left fun k _=>?_
 show ((gs.getD k 0,bs.getD ((k:Int)).toNat false):Gm)=(gs.getD k 0,bs.getD k false)
 rw [show ((k:Int)).toNat=k by omega]
theorem Rw.init {gs:List Int}{bs:List Bool}(h:gs.length=2\/gs.length=4\/gs.length=6\/gs.length=8)(hb:bs.length=gs.length):Rw (numP gs) (numP gs) bs gs.length:=by
 have hl:(numP gs).length=gs.length:=by unfold numP;simp
 refine ⟨by omega,by omega,by omega,fun p hp=>?_,?_,hb,fun bs' _ _ F=>F⟩
 ·unfold numP at hp
  obtain ⟨k,hk,rfl⟩:=List.mem_map.mp hp
  have:=List.mem_range.mp hk
  exact ⟨by show (0:Int)<=(k:Int);omega,by show (k:Int)<_;omega⟩
 ·unfold numP
  rw [List.map_map]
  have:=upto_nodup gs.length
  unfold upto at this
  exact this
noncomputable def gIx (l:List (Int×Int))(i:Nat):Int×Int:=l.getD i (0,0)
noncomputable def amidC (l:List (Int×Int))(k:Nat):Bool:=decide ((gIx l k).1<=min (gIx l ((k+(l.length - 1)) % l.length)).1 (gIx l ((k+1) % l.length)).1)
noncomputable def amidP (l:List (Int×Int)):List Int:=((List.range l.length).filter (amidC l)).map fun k=>((k:Nat):Int)
theorem gIx_some {l:List (Int×Int)}{i:Nat}(h:i<l.length):l[i]? = some (gIx l i):=by
 unfold gIx;simp [List.getD,h]
theorem gIx_of {l:List (Int×Int)}{i:Nat}{x:Int×Int}(h:l[i]? = some x):gIx l i=x:=by
 unfold gIx;simp [List.getD,h]
theorem amid_mem {l:List (Int×Int)}{k:Int}(h:k∈amidP l):0<=k/\k<l.length/\amidC l k.toNat=true:=by
 unfold amidP at h
 obtain ⟨j,hj,rfl⟩:=List.mem_map.mp h
 obtain ⟨h1,h2⟩:=List.mem_filter.mp hj
 have:=List.mem_range.mp h1
 refine ⟨by omega,by omega,?_⟩
 rw [show ((j:Int)).toNat=j by omega]
 exact h2
theorem amid_rot {l:List (Int×Int)}{k:Nat}(hk:k<l.length)(h3:3<=l.length)(h:amidC l k=true) :
  ∃ x y z r,rotN l ((k+(l.length - 1)) % l.length)=x::y::z::r/\y=gIx l k/\z=gIx l ((k+1) % l.length)/\y.1<=x.1/\y.1<=z.1:=by
 have l1:(k+(l.length - 1)) % l.length<l.length:=Nat.mod_lt _ (by omega)
 have l2:(k+1) % l.length<l.length:=Nat.mod_lt _ (by omega)
 obtain ⟨r,e⟩:=rotN_three hk h3 (gIx_some l1) (gIx_some hk) (gIx_some l2)
 unfold amidC at h
 rw [decide_eq_true_eq] at h
 exact ⟨_,_,_,r,e,rfl,rfl,by omega,by omega⟩
noncomputable def someP (M:List Bool)(l:List (Int×Int)):List Int:=(amidP l).filter fun k=>(gmI M (gIx l k.toNat)).2 != (gmI M (gIx l ((k.toNat+1) % l.length))).2
theorem some_none {M:List Bool}{l:List (Int×Int)}(h3:2<l.length)(h:someP M l=[]):¬ Fo (l.map (gmI M)):=fun F=>by
 generalize hm:l.map (gmI M)=m at F
 cases F with
 | two _=>have:=congrArg List.length hm;simp at this;omega
 | step R c _=>
  rw [<- hm] at R
  obtain ⟨l',R',e⟩:=R.unmap
  match l',e with
  | x::y::z::r,e=>
   simp at e
   obtain ⟨rfl,rfl,rfl,rfl⟩:=e
   obtain ⟨k,hk,e1,e2,e3⟩:=rot_index R'
   obtain ⟨c1,c2,c3⟩:=c
   have:((k:Nat):Int)∈someP M l:=by
    unfold someP amidP
    refine List.mem_filter.mpr ⟨List.mem_map.mpr ⟨k,List.mem_filter.mpr ⟨List.mem_range.mpr hk,?_⟩,rfl⟩,?_⟩
    ·unfold amidC
     rw [decide_eq_true_eq,gIx_of e1,gIx_of e2,gIx_of e3]
     have a:y.1<=x.1:=c1
     have b:y.1<=z.1:=c2
     omega
    ·rw [show ((k:Int)).toNat=k by omega,gIx_of e2,gIx_of e3]
     simpa using c3
   rw [h] at this
   cases this
theorem some_step {M:List Bool}{l:List (Int×Int)}(he:l.length % 2=0)(h3:2<l.length){k:Int}(h:k∈someP M l) :
  0<=k/\k<l.length/\∃ x y z r,rotN l ((k.toNat+(l.length - 1)) % l.length)=x::y::z::r/\(Fo (l.map (gmI M))↔Fo ((joinP x y z::r).map (gmI M))):=by
 unfold someP at h
 obtain ⟨h1,h2⟩:=List.mem_filter.mp h
 obtain ⟨a1,a2,a3⟩:=amid_mem h1
 refine ⟨a1,a2,?_⟩
 obtain ⟨x,y,z,r,e,ey,ez,c1,c2⟩:=amid_rot (by omega) (by omega) a3
 refine ⟨x,y,z,r,e,?_⟩
 have R:Rot l (x::y::z::r):=by rw [<- e];exact rotN_Rot _ _
 have R':=R.map (gmI M)
 simp only [List.map_cons] at R' ⊢
 rw [gmI_join]
 refine Fo.iff R' (by rw [List.length_map];exact he) ⟨c1,c2,?_⟩
 rw [ey,ez]
 simpa using h2
theorem w_eqNil {μ:Hm}{A B:Nat}{ds:List D}{Q:D×Hm->Prop}(hA:μ[A]? = some (.lst ds))(hB:μ[B]? = some (.lst [])):W (eqM false (.loc A) (.loc B) μ) Q↔Q (.bl ds.isEmpty,μ):=by
 have kd:∀ {x:Nat}{xs:List D},μ[x]? = some (.lst xs)->kindD μ (.loc x)=some (.lst xs):=fun h=>by simp only [kindD,h]
 have e:eqD 8 μ (.loc A) (.loc B)=some ds.isEmpty:=by
  show (kindD μ (.loc A)).bind (fun u=>(kindD μ (.loc B)).bind fun v=>eqKd (eqD 7 μ) u v)=_
  rw [kd hA,kd hB]
  show eqs (eqD 7 μ) ds []=_
  cases ds<;>rfl
 unfold eqM
 rw [e]
 exact W_some
theorem pp_get {l:List (Int×Int)}{j:Nat}(h:j<l.length):(l.map PP)[j]? = some (PP (gIx l j)):=by
 rw [List.getElem?_map,gIx_some h];rfl
theorem pp_at {l:List (Int×Int)}{i:Int}(h:0<=i/\i<l.length):atI (l.map PP) i=some (PP (gIx l i.toNat)):=by
 unfold atI
 rw [List.length_map,ix_ok h.1 (by omega),Option.bind_some,pp_get (by omega)]
theorem pp_back {l:List (Int×Int)}{k:Nat}(h:k<l.length):atI (l.map PP) ((k:Int) - 1)=some (PP (gIx l ((k+(l.length - 1)) % l.length))):=by
 unfold atI
 rw [List.length_map]
 have e:ixN l.length ((k:Int) - 1)=some ((k+(l.length - 1)) % l.length):=by
  unfold ixN
  by_cases c:k=0
  ·subst c
   rw [if_neg (by omega),if_pos (by omega)]
   congr 1
   rw [Nat.mod_eq_of_lt (by omega)]
   omega
  ·rw [if_pos (by omega),if_pos (by omega)]
   congr 1
   rw [show k+(l.length - 1)=k - 1+l.length by omega,Nat.add_mod_right,Nat.mod_eq_of_lt (by omega)]
   omega
 rw [e,Option.bind_some,pp_get (Nat.mod_lt _ (by omega))]
theorem mod_nat (k n:Nat)(h:0<n):(((k:Int)+1) % (n:Int))=(((k+1) % n:Nat):Int):=by
 rw [Int.natCast_emod];rfl
theorem s_amid (k:Nat){μ:Hm}{a:Nat}{l:List (Int×Int)}(ha:μ[a]? = some (.lst (l.map PP)))(hl:1<=l.length/\l.length<=8)(Q:D×Hm->Prop)
  (H:∀ b μ',μ <+: μ'->μ'[b]? = some (.lst ((amidP l).map D.int))->μ.length<=b->Q (.loc b,μ')):W (f (k+1) "_law_amid" [.loc a] μ) Q:=by
 rw [ev_w_amid,W_fin]
 simp only [w_mSeq,w_mSet,w_mLst,w_mNil]
 refine ⟨Nat.zero_le _,?_⟩
 have hne:a≠μ.length:=Nat.ne_of_lt (List.getElem?_eq_some_iff.mp ha).1
 simp only [List.set_cons_zero,List.set_cons_succ,w_mForI,w_iRng1 (j:=0),w_mCall,w_mCons,w_mNil,w_mVar0]
 refine (w_lenL (pre_get (pre_snoc _ _) ha)).mpr ?_
 rw [List.length_map]
 refine ⟨by omega,?_⟩
 rw [show ((l.length:Nat):Int).toNat=l.length by omega]
 refine w_forR (lo:=0) (fun i ρ μ'=>μ <+: μ'/\μ'[a]? = some (.lst (l.map PP))/\μ'[μ.length]? = some (.lst ((((List.range i).filter (amidC l)).map fun k=>((k:Nat):Int)).map D.int))/\∃ o,ρ=[some (.loc a),some (.loc μ.length),o])
  ⟨pre_snoc _ _,pre_get (pre_snoc _ _) ha,get_last _ _,none,rfl⟩ ?_ ?_
 ·rintro i ρ μ' hi ⟨hp,hs,hg,o,rfl⟩
  refine ⟨_,rfl,?_⟩
  rw [show (0:Int)+(i:Int)=(i:Int) by omega]
  have hm1:(i+1) % l.length<l.length:=Nat.mod_lt _ (by omega)
  simp only [List.set_cons_zero,List.set_cons_succ,w_mIfS,w_mTest,w_mOp,w_mCall,w_mCons,w_mNil,w_mVar0,w_mVarS,w_mC,w_subI,w_addI]
  refine (w_itL hs (pp_at (l:=l) (i:=(i:Int)) (by omega))).mpr ?_
  simp only [w_it20]
  refine (w_itL hs (pp_back hi)).mpr ?_
  simp only [w_it20]
  refine (w_lenL hs).mpr ?_
  rw [List.length_map]
  refine (w_modI (show (0:Int)<(l.length:Int) by omega)).mpr ?_
  rw [mod_nat i l.length (by omega)]
  refine (w_itL hs (pp_at (l:=l) (i:=(((i+1) % l.length:Nat):Int)) (by omega))).mpr ?_
  simp only [w_it20,w_min,w_leI]
  rw [show ((i:Int)).toNat=i by omega,show ((((i+1) % l.length:Nat):Int)).toNat=(i+1) % l.length by omega]
  have hc:decide ((gIx l i).1<=min (gIx l ((i+(l.length - 1)) % l.length)).1 (gIx l ((i+1) % l.length)).1)=amidC l i:=rfl
  rw [hc]
  cases h:amidC l i with
  | true=>
   simp only [if_true,w_mDrop]
   refine w_mMeth ?_
   simp only [w_mVar0,w_mVarS]
   refine ⟨isLst_loc hg,?_⟩
   simp only [w_mCons,w_mNil,w_mVar0,w_mVarS]
   refine (w_append hg ?_).mpr ?_
   ·rw [List.length_map,List.length_map,sizeLine_eq]
    have:=List.length_filter_le (amidC l) (List.range i)
    rw [List.length_range] at this
    omega
   ·refine ⟨pre_set hp (Nat.le_refl _) _,?_,?_,_,rfl⟩
    ·rw [List.getElem?_set_ne (Ne.symm hne)];exact hs
    ·rw [List.getElem?_set_self (List.getElem?_eq_some_iff.mp hg).1,List.range_succ,List.filter_append,List.map_append,List.map_append]
     simp [h]
  | false=>
   simp only [Bool.false_eq_true,if_false,w_mNext]
   refine ⟨hp,hs,?_,_,rfl⟩
   rw [hg,List.range_succ,List.filter_append]
   simp [h]
 ·rintro ρ μ' ⟨hp,hs,hg,o,rfl⟩
  simp only [w_mRet,w_mVar0,w_mVarS]
  exact H _ _ hp hg (Nat.le_refl _)
theorem s_joined (k:Nat){μ:Hm}{a:Nat}{x y z:Int×Int}{r:List (Int×Int)}(ha:μ[a]? = some (.lst ((x::y::z::r).map PP)))(hl:r.length<=8)(Q:D×Hm->Prop)
  (H:∀ b μ',μ <+: μ'->μ'[b]? = some (.lst ((joinP x y z::r).map PP))->μ.length<=b->Q (.loc b,μ')):W (f (k+1) "_law_joined" [.loc a] μ) Q:=by
 rw [ev_w_joined,W_fin]
 have i0:atI ((x::y::z::r).map PP) 0=some (PP x):=at_nat (i:=0) rfl
 have i1:atI ((x::y::z::r).map PP) 1=some (PP y):=at_nat (i:=1) rfl
 have i2:atI ((x::y::z::r).map PP) 2=some (PP z):=at_nat (i:=2) rfl
 simp only [w_mRet,w_mOp,w_mLst,w_mTup,w_mCons,w_mNil,w_mVar0,w_mC,w_itL ha i0,w_itL ha i1,w_itL ha i2,w_it20,w_it21,w_addI,w_subI]
 refine ⟨len2,len1,?_⟩
 refine w_sliceL ?_
 simp only [w_mVar0]
 refine ⟨a,rfl,?_⟩
 simp only [w_mNoPart,w_mPart,w_mC]
 refine ⟨_,pre_get (pre_snoc _ _) ha,?_⟩
 rw [cut_from _ (show (0:Int)<=3/\(3:Int)<=((x::y::z::r).map PP).length by simp only [List.length_map,List.length_cons];omega)]
 have e3:((x::y::z::r).map PP).drop (3:Int).toNat=r.map PP:=rfl
 rw [e3]
 refine (w_addL (pre_get (pre_snoc _ _) (get_last _ _)) (get_last _ _) (by rw [sizeLine_eq,List.length_map];simp only [List.length_cons,List.length_nil];omega)).mpr ?_
 exact H _ _ ((pre_snoc _ _).trans ((pre_snoc _ _).trans (pre_snoc _ _))) (get_last _ _) (by simp only [List.length_append];omega)
theorem cut_back {l:List (Int×Int)}{k:Int}(hk:0<=k/\k<l.length):cutD (l.map PP) (some (k - 1)) none=(l.drop ((k.toNat+(l.length - 1)) % l.length)).map PP/\cutD (l.map PP) none (some (k - 1))=(l.take ((k.toNat+(l.length - 1)) % l.length)).map PP:=by
 by_cases c:k=0
 ·subst c
  have e:((0:Int).toNat+(l.length - 1)) % l.length=l.length - 1:=by
   rw [show (0:Int).toNat+(l.length - 1)=l.length - 1 by simp,Nat.mod_eq_of_lt (by omega)]
  rw [e,show (0:Int) - 1 = -1 from rfl]
  refine ⟨?_,?_⟩
  ·unfold cutD
   have e1:HT.sIx (l.map PP).length 0 (some (-1))=l.length - 1:=by
    rw [List.length_map]
    unfold HT.sIx
    first
    | (simp;omega)
    | (rw [if_pos (by decide)];omega)
    | omega
   rw [e1,HT.sIx_none]
   rw [List.take_of_length_le (by rw [List.length_drop];exact Nat.le_refl _),<- List.map_drop]
  ·rw [cut_last _ (by rw [List.length_map];omega),List.length_map,<- List.map_take]
 ·have e:(k.toNat+(l.length - 1)) % l.length=(k - 1).toNat:=by
   rw [show k.toNat+(l.length - 1)=(k - 1).toNat+l.length by omega,Nat.add_mod_right,Nat.mod_eq_of_lt (by omega)]
  rw [e,cut_from _ (by rw [List.length_map];omega),cut_to _ (by rw [List.length_map];omega),<- List.map_drop,<- List.map_take]
  exact ⟨rfl,rfl⟩
noncomputable def numX:D->Rho
 | .tup [x,y]=>[some x,some y]
 | _=>[]
noncomputable def swpD:D->D
 | .tup [x,y]=>.tup [y,x]
 | d=>d
theorem numD_swp (gs:List Int):((numD 0 (gs.map D.int)).filter fun _=>true).map swpD=(numP gs).map PP:=by
 rw [filter_all]
 refine List.ext_getElem? fun i=>?_
 unfold numP
 rw [List.getElem?_map,numD_get,List.getElem?_map,List.map_map,List.getElem?_map]
 by_cases h:i<gs.length
 ·rw [List.getElem?_eq_getElem h,List.getElem?_range h]
  simp [swpD,List.getD,h,PP,P]
 ·rw [List.getElem?_eq_none (by omega),List.getElem?_eq_none (by simp;omega)]
  rfl
theorem w_numP {v1 v2:Nat}{ρ:Rho}{μ:Hm}{a:Nat}{gs:List Int}{Q:D×Hm->Prop}(h1:ρ.length=v1)(h2:v2=v1+1)(hv:∃ r,ρ=some (.loc a)::r)(ha:μ[a]? = some (.lst (gs.map D.int)))(hl:gs.length<=8)
  (H:∀ μ',μ <+: μ'->μ'[μ.length]? = some (.lst ((numP gs).map PP))->Q (.loc μ.length,μ')):W (mCompG (bdTup 2) (iEnumD (mCons (mVar 0) mNil)) mTrue (mTup (mCons (mVar v2) (mCons (mVar v1) mNil))) ρ μ) Q:=by
 obtain ⟨r,rfl⟩:=hv
 subst h1 h2
 refine w_compT (xs:=numD 0 (gs.map D.int)) (x:=numX) (p:=fun _=>true) (v:=swpD) ?_
 refine w_iEnum ?_
 simp only [w_mCons,w_mNil,w_mVar0]
 refine ⟨a,_,rfl,ha,src_enum ha,by rw [numD_len],by rw [numD_len,List.length_map,sizeLine_eq];omega,fun d μ' hd=>?_,fun d μ' hd hp=>w_mTrue.mpr ⟨rfl,List.prefix_refl _⟩,fun d μ' hd _ hp=>?_,fun μ' hp hg=>?_⟩
 ·obtain ⟨i,hi⟩:=List.getElem?_of_mem hd
  rw [numD_get] at hi
  obtain ⟨e,_,rfl⟩:=Option.map_eq_some_iff.mp hi
  rfl
 ·obtain ⟨i,hi⟩:=List.getElem?_of_mem hd
  rw [numD_get] at hi
  obtain ⟨e,_,rfl⟩:=Option.map_eq_some_iff.mp hi
  have g0:∀ {x y:D}{μ:Hm}{Q:D×Hm->Prop},W (mVar (some (D.loc a)::r).length ((some (D.loc a)::r)++[some x,some y]) μ) Q↔Q (x,μ):=fun {x y μ Q}=>by
   unfold mVar
   rw [List.getElem?_append_right (Nat.le_refl _),Nat.sub_self]
   exact W_some
  have g1:∀ {x y:D}{μ:Hm}{Q:D×Hm->Prop},W (mVar ((some (D.loc a)::r).length+1) ((some (D.loc a)::r)++[some x,some y]) μ) Q↔Q (y,μ):=fun {x y μ Q}=>by
   unfold mVar
   rw [List.getElem?_append_right (by omega),show (some (D.loc a)::r).length+1 - (some (D.loc a)::r).length=1 by omega]
   exact W_some
  show W (mTup _ ((some (D.loc a)::r)++[some _,some _]) μ') _
  simp only [w_mTup,w_mCons,w_mNil,g0,g1]
  exact ⟨len2,rfl,List.prefix_refl _⟩
 ·rw [numD_swp] at hg
  exact H _ hp hg
theorem s_folds (k:Nat){μ:Hm}{a:Nat}{gs:List Int}{M:List Bool}{num:Int}(ha:μ[a]? = some (.lst (gs.map D.int)))(hG:GoodG gs)(hM:M.length=gs.length)(Q:D×Hm->Prop)
  (H:∀ b μ',μ <+: μ'->(b=true↔Fo ((wdsP gs M).map gm))->Q (.bl b,μ')):W (f (k+2) "_law_folds" [.loc a,.str (mStr M),.int num] μ) Q:=by
 have hl:=hG.len
 have hrg:=hG.rgl
 rw [ev_w_folds,W_fin]
 simp only [w_mSeq,w_mSet]
 refine w_numP (v1:=6) (v2:=7) rfl rfl ⟨_,rfl⟩ ha (by omega) fun μ1 p1 g1=>?_
 generalize hbe:μ.length=b at g1
 have R0:=Rw.init (gs:=gs) (bs:=M) hl hM
 simp only [List.set_cons_zero,List.set_cons_succ]
 refine w_mWhile (fun m ρ μ'=>μ <+: μ'/\m<=4/\∃ num c l o3 o5,ρ=[some (.loc a),some (.str (mStr M)),some (.int num),o3,some (.loc c),o5]/\μ'[c]? = some (.lst (l.map PP))/\l.length % 2=0/\2<=l.length/\l.length<=2 * m/\(∀ p∈l,0<=p.2/\p.2<(gs.length:Int))/\(Fo (l.map (gmI M))↔Fo ((wdsP gs M).map gm))) 4 (by decide)
  ⟨p1,Nat.le_refl _,num,b,numP gs,none,none,rfl,g1,R0.ev,R0.two,by unfold numP;simp;omega,R0.ix,by rw [numP_gm]⟩ ?_
 rintro m ρ μ' ⟨hp,hm4,num,c,l,o3,o5,rfl,hc,hev,h2,hlm,hix,hF⟩
 simp only [w_mTest,w_mOp,w_mCall,w_mCons,w_mNil,w_mVar0,w_mVarS,w_mC]
 refine (w_lenL hc).mpr ?_
 rw [List.length_map]
 simp only [w_gtI]
 have mem_ix:∀ i,i<l.length->gIx l i∈l:=fun i hi=>List.mem_of_getElem? (gIx_some hi)
 by_cases h3:2<l.length
 ·have e:decide ((2:Int)<(l.length:Int))=true:=decide_eq_true (by omega)
  simp only [e,if_true,w_mSeq,w_mSet]
  refine w_comp (xs:=(amidP l).map D.int) (p:=fun d=>(gmI M (gIx l (unI d).toNat)).2 != (gmI M (gIx l (((unI d).toNat+1) % l.length))).2) (v:=fun d=>d) ?_
  simp only [w_iSeq,w_mCall,w_mCons,w_mNil,w_mVar0,w_mVarS]
  refine s_amid _ hc ⟨by omega,by omega⟩ _ fun d4 μ4 p4 g4 l4=>?_
  refine (w_seqL g4).mpr ?_
  have hc4:=pre_get p4 hc
  have hal:(amidP l).length<=8:=by
   unfold amidP
   rw [List.length_map]
   have:=List.length_filter_le (amidC l) (List.range l.length)
   rw [List.length_range] at this
   omega
  refine ⟨src_loc g4,rfl,by rw [List.length_map,sizeLine_eq];omega,fun d μ5 hd hp5=>?_,fun d μ5 hd _ hp5=>?_,fun μ5 p5 g5=>?_⟩
  ·obtain ⟨kk,hk,rfl⟩:=mem_ints hd
   obtain ⟨k0,k1,_⟩:=amid_mem hk
   have hc5:=pre_get hp5 hc4
   have lt1:(kk.toNat+1) % l.length<l.length:=Nat.mod_lt _ (by omega)
   have i1:=hix _ (mem_ix kk.toNat (by omega))
   have i2:=hix _ (mem_ix _ lt1)
   have em:(kk+1) % (l.length:Int)=(((kk.toNat+1) % l.length:Nat):Int):=by rw [<- mod_nat _ _ (by omega),show ((kk.toNat:Nat):Int)=kk by omega]
   simp only [List.cons_append,List.nil_append,w_mTest,w_mOp,w_mCall,w_mCons,w_mNil,w_mVar0,w_mVarS,w_mC]
   refine (w_itL hc5 (pp_at ⟨k0,k1⟩)).mpr ?_
   simp only [w_it21]
   rw [w_itM (by omega) (by omega)]
   simp only [w_addI]
   refine (w_lenL hc5).mpr ?_
   rw [List.length_map]
   refine (w_modI (by omega)).mpr ?_
   rw [em]
   refine (w_itL hc5 (pp_at ⟨by omega,by omega⟩)).mpr ?_
   simp only [w_it21]
   rw [show ((((kk.toNat+1) % l.length:Nat):Int)).toNat=(kk.toNat+1) % l.length by omega]
   rw [w_itM (by omega) (by omega)]
   simp only [w_neS,sgn_eq]
   exact ⟨rfl,List.prefix_refl _⟩
  ·simp only [List.cons_append,List.nil_append,w_mVar0,w_mVarS]
   exact ⟨trivial,List.prefix_refl _⟩
  ·have g5':μ5[μ4.length]? = some (.lst ((someP M l).map D.int)):=by
    rw [g5]
    unfold someP
    have:=fl_ints (amidP l) (fun k=>(gmI M (gIx l k.toNat)).2 != (gmI M (gIx l ((k.toNat+1) % l.length))).2)
    rw [<- this]
   have hc5:=pre_get p5 hc4
   generalize μ4.length=sm at g5'
   simp only [List.set_cons_zero,List.set_cons_succ,w_mIfS,w_mTest,w_mOp,w_mVar0,w_mVarS,w_mLst,w_mNil]
   refine ⟨Nat.zero_le _,?_⟩
   refine (w_eqNil (pre_get (pre_snoc _ _) g5') (get_last _ _)).mpr ?_
   have q6:=pre_snoc μ5 (C.lst [])
   have g6:=pre_get q6 g5'
   have hc6:=pre_get q6 hc5
   have p6:μ <+: μ5++[C.lst []]:=hp.trans (p4.trans (p5.trans q6))
   generalize μ5++[C.lst []]=μ6 at g6 hc6 p6 ⊢
   cases hs:someP M l with
   | nil=>
    simp only [List.map_nil,List.isEmpty_nil,if_true,w_mRet,w_mC]
    refine H _ _ p6 ?_
    rw [<- hF]
    exact ⟨fun h=>(by cases h),fun h=>absurd h (some_none h3 hs)⟩
   | cons s0 sr=>
    rw [hs] at g6
    have hsl:(s0::sr).length<=8:=by
     rw [<- hs]
     unfold someP
     exact Nat.le_trans (List.length_filter_le _ _) hal
    have em0:((s0::sr).map D.int).isEmpty=false:=rfl
    rw [em0]
    simp only [Bool.false_eq_true,if_false,w_mNext,w_mOp,w_mCall,w_mCons,w_mNil,w_mVar0,w_mVarS]
    refine (w_lenL g6).mpr ?_
    rw [List.length_map]
    have hpos:(0:Int)<((s0::sr).length:Int):=by simp only [List.length_cons];omega
    refine (w_modI hpos).mpr ?_
    have r0:=Int.emod_nonneg num (show ((s0::sr).length:Int)≠0 by omega)
    have r1:=Int.emod_lt_of_pos num hpos
    generalize num % ((s0::sr).length:Int)=q at r0 r1
    refine (w_itL g6 (at_ok r0 r1)).mpr ?_
    have hmem:(s0::sr).getD q.toNat 0∈someP M l:=by
     rw [hs]
     exact getD_mem (by omega)
    generalize (s0::sr).getD q.toNat 0=kk at hmem
    obtain ⟨k0,k1,x,y,z,r,hr,hFF⟩:=some_step hev h3 hmem
    have hR:Rot l (x::y::z::r):=by rw [<- hr];exact rotN_Rot _ _
    have hrl:=hR.len
    simp only [List.length_cons] at hrl
    obtain ⟨cf,ct⟩:=cut_back (l:=l) (k:=kk) ⟨k0,k1⟩
    simp only [List.set_cons_zero,List.set_cons_succ,w_mOp,w_mVar0,w_mVarS,w_mC]
    refine (w_fdivI (by decide) (by decide)).mpr ?_
    simp only [List.set_cons_zero,List.set_cons_succ,w_mCall,w_mCons,w_mNil,w_mOp]
    refine w_sliceL ?_
    simp only [w_mVar0,w_mVarS]
    refine ⟨c,rfl,?_⟩
    simp only [w_mNoPart,w_mPart,w_mOp,w_mVar0,w_mVarS,w_mC,w_subI]
    refine ⟨_,hc6,?_⟩
    rw [cf]
    refine w_sliceL ?_
    simp only [w_mVar0,w_mVarS]
    refine ⟨c,rfl,?_⟩
    simp only [w_mNoPart,w_mPart,w_mOp,w_mVar0,w_mVarS,w_mC,w_subI]
    refine ⟨_,pre_get (pre_snoc _ _) hc6,?_⟩
    rw [ct]
    refine (w_addL (pre_get (pre_snoc _ _) (get_last _ _)) (get_last _ _) (by rw [List.length_map,List.length_map,List.length_drop,List.length_take,sizeLine_eq];omega)).mpr ?_
    rw [<- List.map_append]
    have hr':l.drop ((kk.toNat+(l.length - 1)) % l.length)++l.take ((kk.toNat+(l.length - 1)) % l.length)=x::y::z::r:=hr
    rw [hr']
    generalize hμ7:μ6++[C.lst ((l.drop ((kk.toNat+(l.length - 1)) % l.length)).map PP)]++[C.lst ((l.take ((kk.toNat+(l.length - 1)) % l.length)).map PP)]=μ7
    have p7:μ6 <+: μ7++[C.lst ((x::y::z::r).map PP)]:=by rw [<- hμ7];exact (pre_snoc _ _).trans ((pre_snoc _ _).trans (pre_snoc _ _))
    have g7:=get_last μ7 (C.lst ((x::y::z::r).map PP))
    refine s_joined _ g7 (by omega) _ fun b9 μ9 p9 g9 l9=>?_
    simp only [List.set_cons_zero,List.set_cons_succ]
    refine ⟨m - 1,by omega,p6.trans (p7.trans p9),by omega,_,b9,joinP x y z::r,_,_,rfl,g9,by simp only [List.length_cons];omega,by simp only [List.length_cons];omega,by simp only [List.length_cons];omega,fun p hp=>?_,hFF.symm.trans hF⟩
    rcases List.mem_cons.mp hp with rfl|hp
    ·exact hix x (hR.mem.mpr (by simp))
    ·exact hix p (hR.mem.mpr (by simp [hp]))
 ·have e:decide ((2:Int)<(l.length:Int))=false:=decide_eq_false (by omega)
  simp only [e,Bool.false_eq_true,if_false]
  match l,h2,h3,hc,hix,hF with
  | [p,q],_,_,hc,hix,hF=>
   have ip:=hix p (by simp)
   have iq:=hix q (by simp)
   simp only [w_mRet,w_mOp,w_mVar0,w_mVarS,w_mC]
   refine (w_itL hc (at_nat (i:=0) (d:=PP p) rfl)).mpr ?_
   simp only [w_it21]
   rw [w_itM (by omega) (by omega)]
   refine (w_itL hc (at_nat (i:=1) (d:=PP q) rfl)).mpr ?_
   simp only [w_it21]
   rw [w_itM (by omega) (by omega)]
   simp only [w_eqS,sgn_eq]
   refine H _ _ hp ?_
   rw [<- hF,beq_iff_eq]
   refine ⟨fun h=>.two h,fun h=>?_⟩
   generalize hm:[p,q].map (gmI M)=mm at h
   cases h with
   | two h=>
    simp only [List.map_cons,List.map_nil,List.cons.injEq] at hm
    obtain ⟨rfl,rfl,_⟩:=hm
    exact h
   | step R _ _=>have:=R.len;rw [<- hm] at this;simp at this
  | _::_::_::_,_,h3,_,_,_=>exact absurd (by simp) h3
theorem w_maxL {μ:Hm}{a:Nat}{is:List Int}{Q:D×Hm->Prop}(h:μ[a]? = some (.lst (is.map D.int)))(h0:0<is.length):W (maxA [.loc a] μ) Q↔Q (.int (maxAt is),μ):=by
 have e:maxA [.loc a] μ=some (.int (maxAt is),μ):=by
  simp only [maxA,maxLM,lstD,h,Option.bind_some,intsD_map,if_pos h0]
 rw [e]
 exact W_some
theorem w_minL {μ:Hm}{a:Nat}{is:List Int}{Q:D×Hm->Prop}(h:μ[a]? = some (.lst (is.map D.int)))(h0:0<is.length):W (minA [.loc a] μ) Q↔Q (.int (minAt is),μ):=by
 have e:minA [.loc a] μ=some (.int (minAt is),μ):=by
  simp only [minA,minLM,lstD,h,Option.bind_some,intsD_map,if_pos h0]
 rw [e]
 exact W_some
theorem Fo.mid {A B:List Gm}{x y z:Gm}(hn:(A++x::y::z::B).length % 2=0)(c:crG x y z):Fo (A++x::y::z::B)↔Fo (A++cjG x y z::B):=by
 have R:Rot (A++x::y::z::B) (x::y::z::(B++A)):=⟨A,x::y::z::B,rfl,by simp⟩
 have R2:Rot (A++cjG x y z::B) (cjG x y z::(B++A)):=⟨A,cjG x y z::B,rfl,by simp⟩
 rw [Fo.iff R hn c]
 exact ⟨fun h=>h.rot R2.symm,fun h=>h.rot R2⟩
noncomputable def rngM (a Y:Int):List Bool->List Gm
 | []=>[]
 | [m]=>[(Y,m)]
 | m::n::r=>(a,m)::rngM a Y (n::r)
theorem rngM_len (a Y:Int):∀ ms:List Bool,(rngM a Y ms).length=ms.length
 | []=>rfl
 | [_]=>rfl
 | _::n::r=>by simp [rngM,rngM_len a Y (n::r)]
theorem rngM_app (a Y:Int):∀ (u v:List Bool),v≠[]->rngM a Y (u++v)=u.map (fun m=>(a,m))++rngM a Y v
 | [],v,_=>rfl
 | [m],v,h=>by
  cases v with
  | nil=>exact absurd rfl h
  | cons n r=>rfl
 | m::n::u,v,h=>by
  show (a,m)::rngM a Y (n::u++v)=_
  rw [rngM_app a Y (n::u) v h]
  rfl
noncomputable def balB:List Bool->Int
 | []=>0
 | b::r=>(if b then 1 else -1)+balB r
theorem balB_app:∀ u v:List Bool,balB (u++v)=balB u+balB v
 | [],v=>by simp [balB]
 | b::u,v=>by simp only [List.cons_append,balB,balB_app u v];omega
theorem balB_two (u v:List Bool){b c:Bool}(h:b≠c):balB (u++b::c::v)=balB (u++v):=by
 rw [balB_app,balB_app]
 cases b<;>cases c<;>simp_all [balB]<;>omega
theorem balB_rep (s:Bool):∀ j:Nat,balB (List.replicate j s)=if s then (j:Int) else -(j:Int)
 | 0=>by cases s<;>simp [balB]
 | j+1=>by
  rw [List.replicate_succ]
  simp only [balB,balB_rep s j]
  cases s<;>simp<;>omega
theorem alike_or:∀ ms:List Bool,(∃ u b c v,ms=u++b::c::v/\b≠c)\/∃ j s,ms=List.replicate j s
 | []=>.inr ⟨0,true,rfl⟩
 | [b]=>.inr ⟨1,b,rfl⟩
 | b::c::r=>by
  by_cases h:b=c
  ·subst h
   rcases alike_or (b::r) with ⟨u,b',c',v,e,ne⟩|⟨j,s,e⟩
   ·exact .inl ⟨b::u,b',c',v,by rw [e];rfl,ne⟩
   ·cases j with
    | zero=>cases e
    | succ j=>
     rw [List.replicate_succ] at e
     injection e with e1 e2
     subst e1
     exact .inr ⟨j+2,b,by rw [e2];rfl⟩
  ·exact .inl ⟨[],b,c,r,rfl,h⟩
theorem pair_red {R u v:List Bool}{P:List Gm}{X:Gm}{a Y:Int}{b c:Bool}(hb:b≠c)(hX:a<=X.1)(hY:a<=Y)(hne:u++v≠[])(hn:(P++[X]++rngM a Y (u++b::c::v)).length % 2=0) :
  Fo (P++[X]++rngM a Y (u++b::c::v))↔Fo (P++[X]++rngM a Y (u++v)):=by
  -- what stands ahead of the two
 have ahead:∃ A x,P++[X]++u.map (fun m=>(a,m))=A++[x]/\a<=x.1:=by
  cases hu:u.reverse with
  | nil=>
   have:u=[]:=by simpa using hu
   subst this
   exact ⟨P,X,by simp,hX⟩
  | cons m w=>
   have:u=w.reverse++[m]:=by
    have:=congrArg List.reverse hu
    simpa using this
   subst this
   exact ⟨P++[X]++w.reverse.map (fun m=>(a,m)),(a,m),by simp,Int.le_refl _⟩
 obtain ⟨A,x,e,hx⟩:=ahead
 cases v with
 | cons n r=>
  have e1:P++[X]++rngM a Y (u++b::c::n::r)=A++x::(a,b)::(a,c)::rngM a Y (n::r):=by
   rw [rngM_app _ _ _ _ (by simp),<- List.append_assoc,e]
   simp [rngM]
  have e2:P++[X]++rngM a Y (u++n::r)=A++x::rngM a Y (n::r):=by
   rw [rngM_app _ _ _ _ (by simp),<- List.append_assoc,e]
   simp
  rw [e1] at hn
  rw [e1,e2,Fo.mid hn ⟨hx,Int.le_refl _,hb⟩]
  have:cjG x (a,b) (a,c)=x:=gm_ext (by show x.1 - a+a=x.1;omega) rfl
  rw [this]
 | nil=>
  rw [List.append_nil] at hne ⊢
  obtain ⟨w,m,rfl⟩:∃ w m,u=w++[m]:=by
   cases hu:u.reverse with
   | nil=>exact absurd (by simpa using hu) hne
   | cons m w=>exact ⟨w.reverse,m,by have:=congrArg List.reverse hu;simpa using this⟩
  have e1:P++[X]++rngM a Y (w++[m]++b::c::[])=(P++[X]++w.map (fun m=>(a,m)))++(a,m)::(a,b)::(Y,c)::[]:=by
   rw [rngM_app _ _ _ _ (by simp)]
   simp [rngM]
  have e2:P++[X]++rngM a Y (w++[m])=(P++[X]++w.map (fun m=>(a,m)))++[(Y,m)]:=by
   rw [rngM_app _ _ _ _ (by simp)]
   simp [rngM]
  rw [e1] at hn
  rw [e1,e2,Fo.mid hn ⟨Int.le_refl _,hY,hb⟩]
  have:cjG (a,m) (a,b) (Y,c)=(Y,m):=gm_ext (by show a - a+Y=Y;omega) rfl
  rw [this]
theorem fin_red {P:List Gm}{X:Gm}{a Y:Int}{b c:Bool}(hb:b≠c)(hX:a<=X.1)(hY:a<=Y)(hn:P.length % 2=1) :
  Fo (P++[X]++rngM a Y [b,c])↔Fo (P++[(X.1 - a+Y,X.2)]):=by
 have e:P++[X]++rngM a Y [b,c]=P++X::(a,b)::(Y,c)::[]:=by simp [rngM]
 rw [e,Fo.mid (by simp;omega) ⟨hX,hY,hb⟩]
 rfl
theorem altSum_app:∀ u v:List Int,altSum (u++v)=altSum u+(if u.length % 2=0 then altSum v else -(altSum v))
 | [],v=>by simp [altSum]
 | g::u,v=>by
  simp only [List.cons_append,altSum,altSum_app u v,List.length_cons]
  by_cases h:u.length % 2=0
  ·rw [if_pos h,if_neg (by omega)];omega
  ·rw [if_neg h,if_pos (by omega)];omega
theorem altSum_cj (p q:List Int)(x y z:Int):altSum (p++x::y::z::q)=altSum (p++(x - y+z)::q):=by
 rw [altSum_app,altSum_app]
 simp only [altSum]
 split<;>omega
theorem rep_of_app {α:Type}{n:Nat}{e:α}{u v:List α}(h:List.replicate n e=u++v):(∀ x∈u,x=e)/\∀ x∈v,x=e:=
 ⟨fun x hx=>(List.mem_replicate.mp (h ▸ List.mem_append.mpr (.inl hx))).2,fun x hx=>(List.mem_replicate.mp (h ▸ List.mem_append.mpr (.inr hx))).2⟩
theorem stuck {l:List Gm}(F:Fo l):∀ {X:Gm}{a Y:Int}{s:Bool}{j:Nat}{rest:List Gm},Rot l (X::(List.replicate (j+1) (a,s)++(Y,s)::rest))->a<X.1->a<Y->l.length % 2=0->
  altSum ((X::(List.replicate (j+1) (a,s)++(Y,s)::rest)).map (·.1))=0->False:=by
 induction F with
 | two h=>
  intro X a Y s j rest R _ _ _ _
  have:=R.len
  simp at this
  omega
 | @step l r x y z R c F' ih=>
  intro X a Y s j rest R2 hX hY he hA
  obtain ⟨u,v,e1,e2⟩:=R2.symm.trans R
  obtain ⟨c1,c2,c3⟩:=c
  have hl:(cjG x y z::r).length % 2=0:=by
   have:=R.len
   simp at this
   simp
   omega
  have whole:x::y::z::r=X::(List.replicate (j+1) (a,s)++(Y,s)::rest)->False:=fun e=>by
   cases j with
   | zero=>
    simp at e
    obtain ⟨_,h2,h3,_⟩:=e
    exact c3 (by rw [h2,h3])
   | succ j=>
    simp [List.replicate_succ] at e
    obtain ⟨_,h2,h3,_⟩:=e
    exact c3 (by rw [h2,h3])
    -- from Y on
  have fromY:∀ t v':List Gm,(Y,s)::rest=t++v'->x::y::z::r=v'++X::(List.replicate (j+1) (a,s)++t)->False:=fun t v' e3 e4=>by
   match t,e3 with
   | [],e3=>
    rw [List.nil_append] at e3
    subst e3
    rw [List.append_nil] at e4
    match rest,e4 with
    | [],e4=>
     simp [List.replicate_succ] at e4
     obtain ⟨_,h2,h3,_⟩:=e4
     rw [h2,h3] at c2
     exact absurd c2 (by show ¬ X.1<=a;omega)
    | [y1],e4=>
     simp at e4
     obtain ⟨h1,h2,h3,h4⟩:=e4
     subst h1 h2 h3
     have hL:=R2.len
     simp at hL
     rw [List.map_cons,List.map_append] at hA
     simp only [altSum,altSum_app,List.map_cons,List.map_nil,List.length_map,List.length_replicate] at hA
     have hrep:∀ n:Nat,altSum ((List.replicate n ((a,s):Gm)).map (·.1))=if n % 2=0 then 0 else a:=fun n=>by
      induction n with
      | zero=>rfl
      | succ n ih=>
       rw [List.replicate_succ,List.map_cons]
       simp only [altSum,ih]
       split<;>split<;>omega
     rw [hrep,if_neg (by omega),if_neg (by omega)] at hA
     have c1':y.1<=Y:=c1
     omega
    | y1::z1::r1,e4=>
     simp at e4
     obtain ⟨h1,h2,h3,h4⟩:=e4
     subst h1 h2 h3
     have c1':y.1<=Y:=c1
     refine ih (X:=X) (a:=a) (Y:=Y - y.1+z.1) (s:=s) (j:=j) (rest:=r1) ?_ hX (by omega) hl ?_
     ·rw [h4]
      exact ⟨cjG (Y,s) y z::r1,X::List.replicate (j+1) (a,s),by simp,by simp [cjG]⟩
     ·rw [<- hA]
      have:=altSum_cj ((X::List.replicate (j+1) ((a,s):Gm)).map (·.1)) (r1.map (·.1)) Y y.1 z.1
      simp only [List.map_cons,List.map_append,List.cons_append] at this ⊢
      exact this.symm
   | _::t',e3=>
    simp at e3
    obtain ⟨rfl,e3⟩:=e3
    match v',e4 with
    | [],e4=>
     rw [List.append_nil] at e3
     subst e3
     exact whole e4
    | [x'],e4=>
     simp [List.replicate_succ] at e4
     obtain ⟨_,h2,h3,_⟩:=e4
     rw [h2,h3] at c2
     exact absurd c2 (by show ¬ X.1<=a;omega)
    | [x',y'],e4=>
     simp at e4
     obtain ⟨h1,h2,h3,h4⟩:=e4
     subst h1 h2 h3 e3
     refine ih (X:=cjG x y z) (a:=a) (Y:=Y) (s:=s) (j:=j) (rest:=t') ?_ (by show a<x.1 - y.1+z.1;omega) hY hl ?_
     ·rw [h4]
      exact .re
     ·have hL:=R2.len
      simp at hL
      have e5:(z::(List.replicate (j+1) ((a,s):Gm)++(Y,s)::(t'++[x,y]))).map (·.1)=z.1::((List.replicate (j+1) ((a,s):Gm)++(Y,s)::t').map (·.1)++[x.1,y.1]):=by simp
      rw [e5] at hA
      simp only [altSum,altSum_app] at hA
      rw [if_neg (by simp;omega)] at hA
      have h6:x.1 - y.1+z.1 - altSum ((List.replicate (j+1) ((a,s):Gm)++(Y,s)::t').map (·.1))=0:=by omega
      exact h6
    | x'::y'::z'::w,e4=>
     simp at e4
     obtain ⟨h1,h2,h3,h4⟩:=e4
     subst h1 h2 h3 e3
     refine ih (X:=X) (a:=a) (Y:=Y) (s:=s) (j:=j) (rest:=t'++cjG x y z::w) ?_ hX hY hl ?_
     ·rw [h4]
      exact ⟨cjG x y z::w,X::(List.replicate (j+1) (a,s)++(Y,s)::t'),by simp,by simp⟩
     ·rw [<- hA]
      have:=altSum_cj ((X::(List.replicate (j+1) ((a,s):Gm)++(Y,s)::t')).map (·.1)) (w.map (·.1)) x.1 y.1 z.1
      simp only [List.map_cons,List.map_append,List.cons_append,List.append_assoc] at this ⊢
      exact this.symm
  match u,e1 with
  | [],e1=>
   rw [List.nil_append] at e1
   rw [List.append_nil,<- e1] at e2
   exact whole e2
  | _::u',e1=>
   rw [List.cons_append] at e1
   injection e1 with h1 e1
   subst h1
   rcases List.append_eq_append_iff.mp e1 with ⟨t,h3,h4⟩|⟨t,h3,h4⟩
   ·-- u'=A++t
    exact fromY t v h4 (by rw [e2,h3])
   ·obtain ⟨hu,ht⟩:=rep_of_app h3
    match t,h4 with
    | [],h4=>
     rw [List.append_nil] at h3
     rw [List.nil_append] at h4
     exact fromY [] v h4.symm (by rw [e2,<- h3,List.append_nil])
    | [e],h4=>
     subst h4
     simp at e2
     obtain ⟨g1,g2,_⟩:=e2
     have:=ht e (by simp)
     rw [g1,g2,this] at c1
     exact absurd c1 (by show ¬ Y<=a;omega)
    | e::e'::t',h4=>
     subst h4
     have he':=ht e' (by simp)
     match t',e2 with
     | [],e2=>
      simp at e2
      obtain ⟨_,g2,g3,_⟩:=e2
      exact c3 (by rw [g2,g3,he'])
     | e''::t'',e2=>
      simp at e2
      obtain ⟨_,g2,g3,_⟩:=e2
      exact c3 (by rw [g2,g3,he',ht e'' (by simp)])
theorem rngM_gaps (a Y:Int):∀ ms:List Bool,ms≠[]->(rngM a Y ms).map (·.1)=List.replicate (ms.length - 1) a++[Y]
 | [],h=>absurd rfl h
 | [m],_=>rfl
 | m::n::r,_=>by
  show a::(rngM a Y (n::r)).map (·.1)=_
  rw [rngM_gaps a Y (n::r) (by simp)]
  simp [List.replicate_succ]
theorem altSum_rep2 (p:List Int)(a:Int)(k:Nat)(q:List Int):altSum (p++(List.replicate (k+2) a++q))=altSum (p++(List.replicate k a++q)):=by
 rw [altSum_app p,altSum_app p,List.replicate_succ,List.replicate_succ,List.cons_append,List.cons_append]
 simp only [altSum]
 split<;>omega
theorem altSum_rot {u v:List Int}(he:(u++v).length % 2=0)(h:altSum (u++v)=0):altSum (v++u)=0:=by
 rw [List.length_append] at he
 rw [altSum_app] at h ⊢
 by_cases hu:u.length % 2=0
 ·rw [if_pos hu] at h
  rw [if_pos (by omega)]
  omega
 ·rw [if_neg hu] at h
  rw [if_neg (by omega)]
  omega
theorem rngM_rep (a Y:Int)(s:Bool):∀ j:Nat,rngM a Y (List.replicate (j+1) s)=List.replicate j (a,s)++[(Y,s)]
 | 0=>rfl
 | j+1=>by
  show (a,s)::rngM a Y (List.replicate (j+1) s)=_
  rw [rngM_rep a Y s j,List.replicate_succ]
  rfl
theorem stuck_run {P:List Gm}{X:Gm}{a Y:Int}{s:Bool}{j:Nat}(hX:a<X.1)(hY:a<Y)(hn:(P++[X]++rngM a Y (List.replicate (j+2) s)).length % 2=0)(hA:altSum ((P++[X]++rngM a Y (List.replicate (j+2) s)).map (·.1))=0) :
  ¬ Fo (P++[X]++rngM a Y (List.replicate (j+2) s)):=fun F=>by
 rw [rngM_rep] at F hn hA
 refine stuck F (X:=X) (a:=a) (Y:=Y) (s:=s) (j:=j) (rest:=P) ⟨P,X::(List.replicate (j+1) (a,s)++[(Y,s)]),by simp,by simp⟩ hX hY hn ?_
 have e:(X::(List.replicate (j+1) ((a,s):Gm)++(Y,s)::P)).map (·.1)=(X::(List.replicate (j+1) ((a,s):Gm)++[(Y,s)])).map (·.1)++P.map (·.1):=by simp
 rw [e]
 refine altSum_rot ?_ ?_
 ·rw [<- List.map_append,List.length_map]
  simpa using hn
 ·rw [<- hA,<- List.map_append]
  simp
theorem alt_less {P:List Gm}{X:Gm}{a Y:Int}{u v:List Bool}{b c:Bool}(hne:u++v≠[])(hA:altSum ((P++[X]++rngM a Y (u++b::c::v)).map (·.1))=0):altSum ((P++[X]++rngM a Y (u++v)).map (·.1))=0:=by
 rw [List.map_append,rngM_gaps _ _ _ (by simp)] at hA
 rw [List.map_append,rngM_gaps _ _ _ hne]
 have e:(u++b::c::v).length - 1=((u++v).length - 1)+2:=by
  have:0<(u++v).length:=List.length_pos_iff.mpr hne
  simp at this ⊢
  omega
 rw [e,altSum_rep2] at hA
 exact hA
theorem run_odd {P:List Gm}{X:Gm}{a Y:Int}(hX:a<X.1)(hY:a<Y):∀ (n:Nat)(ms:List Bool),ms.length<=n->ms.length % 2=0->ms≠[]->(P++[X]++rngM a Y ms).length % 2=0->altSum ((P++[X]++rngM a Y ms).map (·.1))=0->
  (Fo (P++[X]++rngM a Y ms)↔balB ms=0/\Fo (P++[(X.1 - a+Y,X.2)]))
 | 0,ms,h,_,h0,_,_=>absurd (List.length_eq_zero_iff.mp (Nat.le_zero.mp h)) h0
 | n+1,ms,h,he,h0,hn,hA=>by
  rcases alike_or ms with ⟨u,b,c,v,rfl,hb⟩|⟨j,s,rfl⟩
  ·by_cases hne:u++v=[]
   ·obtain ⟨rfl,rfl⟩:=List.append_eq_nil_iff.mp hne
    have hp:P.length % 2=1:=by
     rw [List.length_append,rngM_len] at hn
     simp at hn
     omega
    rw [List.nil_append,fin_red hb (Int.le_of_lt hX) (Int.le_of_lt hY) hp]
    have:balB [b,c]=0:=by cases b<;>cases c<;>simp_all [balB]
    simp [this]
   ·rw [pair_red (R:=[]) hb (Int.le_of_lt hX) (Int.le_of_lt hY) hne hn,balB_two _ _ hb]
    refine run_odd hX hY n (u++v) (by simp at h ⊢;omega) (by simp at he ⊢;omega) hne ?_ (alt_less hne hA)
    rw [List.length_append,rngM_len] at hn ⊢
    simp at hn ⊢
    omega
  ·match j,he with
   | 0,_=>exact absurd rfl h0
   | 1,he=>simp at he
   | j+2,he=>
    refine ⟨fun F=>absurd F (stuck_run hX hY hn hA),fun ⟨hz,_⟩=>?_⟩
    rw [balB_rep] at hz
    exfalso
    split at hz<;>omega
theorem run_even {P:List Gm}{X:Gm}{a Y:Int}(hX:a<X.1)(hY:a<Y):∀ (n:Nat)(ms:List Bool),ms.length<=n->ms.length % 2=1->(P++[X]++rngM a Y ms).length % 2=0->altSum ((P++[X]++rngM a Y ms).map (·.1))=0->
  (Fo (P++[X]++rngM a Y ms)↔(balB ms=1/\Fo (P++[X]++[(Y,true)]))\/(balB ms = -1/\Fo (P++[X]++[(Y,false)])))
 | 0,ms,h,he,_,_=>by omega
 | n+1,ms,h,he,hn,hA=>by
  rcases alike_or ms with ⟨u,b,c,v,rfl,hb⟩|⟨j,s,rfl⟩
  ·have hne:u++v≠[]:=fun e=>by
    obtain ⟨rfl,rfl⟩:=List.append_eq_nil_iff.mp e
    simp at he
   rw [pair_red (R:=[]) hb (Int.le_of_lt hX) (Int.le_of_lt hY) hne hn,balB_two _ _ hb]
   refine run_even hX hY n (u++v) (by simp at h ⊢;omega) (by simp at he ⊢;omega) ?_ (alt_less hne hA)
   rw [List.length_append,rngM_len] at hn ⊢
   simp at hn ⊢
   omega
  ·match j,he with
   | 0,he=>simp at he
   | 1,_=>
    show Fo (P++[X]++[(Y,s)])↔_
    cases s<;>simp [balB]
   | j+2,he=>
    refine ⟨fun F=>absurd F (stuck_run hX hY hn hA),fun hz=>?_⟩
    rw [balB_rep] at hz
    exfalso
    simp at he
    rcases hz with ⟨hz,_⟩|⟨hz,_⟩<;>split at hz<;>omega
theorem Fo.scale {c:Int}(hc:0<c){l:List Gm}(F:Fo l):Fo (l.map fun g=>(c * g.1,g.2)):=by
 induction F with
 | two h=>exact .two h
 | @step l r x y z R k F' ih=>
  obtain ⟨k1,k2,k3⟩:=k
  refine .step (R.map _) ⟨Int.mul_le_mul_of_nonneg_left k1 (Int.le_of_lt hc),Int.mul_le_mul_of_nonneg_left k2 (Int.le_of_lt hc),k3⟩ ?_
  have e:cjG (c * x.1,x.2) (c * y.1,y.2) (c * z.1,z.2)=(c * (cjG x y z).1,(cjG x y z).2):=gm_ext (by
   show c * x.1 - c * y.1+c * z.1=c * (x.1 - y.1+z.1)
   rw [Int.mul_add,Int.mul_sub]) rfl
  rw [e]
  exact ih
theorem Fo.other {l:List Gm}(F:Fo l):Fo (l.map fun g=>(g.1,!g.2)):=by
 induction F with
 | two h=>exact .two (congrArg (!·) h)
 | @step l r x y z R k F' ih=>
  obtain ⟨k1,k2,k3⟩:=k
  exact .step (R.map _) ⟨k1,k2,fun e=>k3 (by cases h1:y.2<;>cases h2:z.2<;>simp_all)⟩ ih
noncomputable def shF:Bool->List Gm->List Gm
 | _,[]=>[]
 | m,g::l=>(g.1,m)::shF g.2 l
noncomputable def laM:Bool->List Gm->Bool
 | d,[]=>d
 | _,g::l=>laM g.2 l
noncomputable def shG (l:List Gm):List Gm:=shF (laM false l) l
theorem shF_app:∀ (m:Bool)(u v:List Gm),shF m (u++v)=shF m u++shF (laM m u) v
 | _,[],_=>rfl
 | m,g::u,v=>by
  show (g.1,m)::shF g.2 (u++v)=_
  rw [shF_app g.2 u v]
  rfl
theorem laM_app:∀ (d:Bool)(u v:List Gm),laM d (u++v)=laM (laM d u) v
 | _,[],_=>rfl
 | _,g::u,v=>laM_app g.2 u v
theorem laM_any {l:List Gm}(h:l≠[])(d d':Bool):laM d l=laM d' l:=by
 cases l with
 | nil=>exact absurd rfl h
 | cons=>rfl
theorem shG_rot {l l':List Gm}(R:Rot l l'):Rot (shG l) (shG l'):=by
 obtain ⟨u,v,rfl,rfl⟩:=R
 by_cases hu:u=[]
 ·subst hu
  rw [List.append_nil]
  exact .re
 by_cases hv:v=[]
 ·subst hv
  rw [List.append_nil]
  exact .re
 unfold shG
 refine ⟨shF (laM false (u++v)) u,shF (laM (laM false (u++v)) u) v,shF_app _ _ _,?_⟩
 rw [shF_app,laM_app false v u,laM_app false u v,laM_any hu (laM (laM false u) v) (laM false v),laM_any hv (laM (laM false v) u) (laM false u)]
theorem Fo.turn {l:List Gm}(F:Fo l):Fo (shG l.reverse):=by
 induction F with
 | @two x y h=>exact .two h
 | @step l r x y z R k F' ih=>
  obtain ⟨k1,k2,k3⟩:=k
  have Rr:Rot l.reverse (r.reverse++[z,y,x]):=by
   obtain ⟨u,v,h1,h2⟩:=R
   refine ⟨v.reverse,u.reverse,by rw [h1];simp,?_⟩
   have:=congrArg List.reverse h2
   simp at this ⊢
   exact this
  have e1:shG (r.reverse++[z,y,x])=shF x.2 r.reverse++[(z.1,laM x.2 r.reverse),(y.1,z.2),(x.1,y.2)]:=by
   unfold shG
   rw [shF_app,laM_app]
   rfl
  have e2:shG (cjG x y z::r).reverse=shF x.2 r.reverse++[(x.1 - y.1+z.1,laM x.2 r.reverse)]:=by
   unfold shG
   rw [List.reverse_cons,shF_app,laM_app]
   rfl
  rw [e2] at ih
  have R1:=shG_rot Rr
  rw [e1] at R1
  refine .step (x:=(z.1,laM x.2 r.reverse)) (y:=(y.1,z.2)) (z:=(x.1,y.2)) (r:=shF x.2 r.reverse) (R1.trans ⟨shF x.2 r.reverse,_,rfl,rfl⟩) ⟨k2,k1,Ne.symm k3⟩ ?_
  have e3:cjG (z.1,laM x.2 r.reverse) (y.1,z.2) (x.1,y.2)=(x.1 - y.1+z.1,laM x.2 r.reverse):=gm_ext (by show z.1 - y.1+x.1=x.1 - y.1+z.1;omega) rfl
  rw [e3]
  exact ih.rot ⟨_,_,rfl,rfl⟩
noncomputable def rowsH:Nat->List (List Bool)
 | 0=>[[]]
 | n+1=>(rowsH n).map (false::·)++(rowsH n).map (true::·)
theorem mem_rowsH:∀ {n:Nat}{bs:List Bool},bs∈rowsH n↔bs.length=n
 | 0,bs=>by simp [rowsH]
 | n+1,bs=>by
  simp only [rowsH,List.mem_append,List.mem_map]
  constructor
  ·rintro (⟨r,h,rfl⟩|⟨r,h,rfl⟩)<;>simp [mem_rowsH.mp h]
  ·intro h
   match bs,h with
   | false::r,h=>exact .inl ⟨r,mem_rowsH.mpr (by simpa using h),rfl⟩
   | true::r,h=>exact .inr ⟨r,mem_rowsH.mpr (by simpa using h),rfl⟩
theorem nodup_map {α β:Type}{g:α->β}(hg:∀ a b,g a=g b->a=b):∀ {l:List α},l.Nodup->(l.map g).Nodup
 | [],_=>by simp
 | a::l,h=>by
  rw [List.nodup_cons] at h
  rw [List.map_cons,List.nodup_cons]
  refine ⟨fun hm=>?_,nodup_map hg h.2⟩
  obtain ⟨b,hb,e⟩:=List.mem_map.mp hm
  exact h.1 (hg _ _ e ▸ hb)
theorem nodup_rowsH:∀ n:Nat,(rowsH n).Nodup
 | 0=>by simp [rowsH]
 | n+1=>by
  rw [rowsH,List.nodup_append]
  refine ⟨nodup_map (fun a b h=>by simpa using h) (nodup_rowsH n),nodup_map (fun a b h=>by simpa using h) (nodup_rowsH n),?_⟩
  intro a ha b hb e
  obtain ⟨x,_,rfl⟩:=List.mem_map.mp ha
  obtain ⟨y,_,rfl⟩:=List.mem_map.mp hb
  simp at e
noncomputable def cntR (n:Nat)(P:List Bool->Bool):Nat:=((rowsH n).filter P).length
theorem cntR_congr {n:Nat}{P P':List Bool->Bool}(h:∀ bs:List Bool,bs.length=n->P bs=P' bs):cntR n P=cntR n P':=by
 unfold cntR
 rw [List.filter_congr fun bs hb=>h bs (mem_rowsH.mp hb)]
theorem sub_len {α:Type} [DecidableEq α]:∀ {l m:List α},l.Nodup->(∀ x∈l,x∈m)->l.length<=m.length
 | [],_,_,_=>by simp
 | a::l,m,h,s=>by
  rw [List.nodup_cons] at h
  have ha:=s a (by simp)
  have:l.length<=(m.erase a).length:=sub_len h.2 fun x hx=>(List.mem_erase_of_ne (fun e:x=a=>h.1 (by rw [<- e];exact hx))).mpr (s x (by simp [hx]))
  rw [List.length_erase_of_mem ha] at this
  have:=List.length_pos_of_mem ha
  simp
  omega
theorem cntR_le {n m:Nat}{P P':List Bool->Bool}(g:List Bool->List Bool)(hl:∀ bs:List Bool,bs.length=n->(g bs).length=m)(hi:∀ bs bs':List Bool,bs.length=n->bs'.length=n->g bs=g bs'->bs=bs')(hP:∀ bs:List Bool,bs.length=n->P bs=true->P' (g bs)=true):cntR n P<=cntR m P':=by
 unfold cntR
 have:∀ l:List (List Bool),l.Nodup->(∀ x∈l,x.length=n)->(l.map g).Nodup:=by
  intro l
  induction l with
  | nil=>simp
  | cons a l ih=>
   intro h hx
   rw [List.nodup_cons] at h
   rw [List.map_cons,List.nodup_cons]
   refine ⟨fun hm=>?_,ih h.2 fun x h=>hx x (by simp [h])⟩
   obtain ⟨b,hb,e⟩:=List.mem_map.mp hm
   exact h.1 (hi _ _ (hx b (by simp [hb])) (hx a (by simp)) e ▸ hb)
 have h2:=this ((rowsH n).filter P) ((nodup_rowsH n).filter _) fun x hx=>mem_rowsH.mp (List.mem_filter.mp hx).1
 rw [<- List.length_map (f:=g)]
 refine sub_len h2 fun x hx=>?_
 obtain ⟨b,hb,rfl⟩:=List.mem_map.mp hx
 obtain ⟨hb,hp⟩:=List.mem_filter.mp hb
 exact List.mem_filter.mpr ⟨mem_rowsH.mpr (hl b (mem_rowsH.mp hb)),hP b (mem_rowsH.mp hb) hp⟩
theorem cntR_add (n:Nat)(P:List Bool->Bool):cntR (n+1) P=cntR n (fun r=>P (false::r))+cntR n (fun r=>P (true::r)):=by
 unfold cntR
 rw [rowsH,List.filter_append,List.length_append,List.filter_map,List.filter_map,List.length_map,List.length_map]
 rfl
theorem cntR_false (n:Nat):cntR n (fun _=>false)=0:=by
 unfold cntR
 rw [List.filter_eq_nil_iff.mpr (by simp)]
 rfl
theorem cntR_mul {n:Nat}{p q:List Bool->Bool}:∀ {m:Nat}{P:List Bool->Bool},(∀ u v:List Bool,u.length=m->v.length=n->P (u++v)=(p u&&q v))->cntR (m+n) P=cntR m p * cntR n q:=by
 intro m
 induction m generalizing p with
 | zero=>
  intro P h
  rw [Nat.zero_add,cntR_congr (P:=P) (P':=fun v=>p []&&q v) fun bs hb=>h [] bs rfl hb]
  cases hp:p [] with
  | false=>simp [cntR_false,cntR,rowsH,hp]
  | true=>simp [cntR,rowsH,hp]
 | succ m ih=>
  intro P h
  rw [Nat.succ_add,cntR_add,cntR_add m p,Nat.add_mul]
  rw [ih (p:=fun r=>p (false::r)) fun u v hu hv=>h (false::u) v (by simp [hu]) hv]
  rw [ih (p:=fun r=>p (true::r)) fun u v hu hv=>h (true::u) v (by simp [hu]) hv]
noncomputable def okB (gs:List Int)(bs:List Bool):Bool:=(foldP 4 (wdsP gs bs)).isSome
noncomputable def cntF (gs:List Int):Nat:=cntR gs.length (okB gs)
noncomputable def Ev (gs:List Int):Prop:=gs.length % 2=0/\2<=gs.length/\gs.length<=8
theorem wds_zip {gs:List Int}{bs:List Bool}(h:bs.length=gs.length):(wdsP gs bs).map gm=gs.zip bs:=by
 unfold wdsP
 rw [List.map_map]
 apply List.ext_getElem
 ·simp [h]
 ·intro i h1 h2
  simp at h1
  simp [gm,List.getD_eq_getElem?_getD,h1,h ▸ h1]
theorem okB_iff {gs:List Int}{bs:List Bool}(he:Ev gs)(h:bs.length=gs.length):okB gs bs=true↔Fo (gs.zip bs):=by
 unfold okB
 obtain ⟨h1,h2,h3⟩:=he
 have hw:(wdsP gs bs).length=gs.length:=by simp [wdsP]
 rw [foldP_iff 4 _ (by omega) (by omega) (by omega),wds_zip h]
theorem okB_eq {gs gs':List Int}{bs bs':List Bool}(he:Ev gs)(he':Ev gs')(h:bs.length=gs.length)(h':bs'.length=gs'.length)(H:Fo (gs.zip bs)↔Fo (gs'.zip bs')):okB gs bs=okB gs' bs':=by
 rw [Bool.eq_iff_iff,okB_iff he h,okB_iff he' h',H]
theorem cntF_scale {gs:List Int}(he:Ev gs){c:Int}(hc:0<c):cntF (gs.map (c * ·))=cntF gs:=by
 unfold cntF
 rw [List.length_map]
 have he':Ev (gs.map (c * ·)):=by unfold Ev at he ⊢;rw [List.length_map];exact he
 refine cntR_congr fun bs hb=>okB_eq he' he (by simp [hb]) hb ?_
 have e:(gs.map (c * ·)).zip bs=(gs.zip bs).map fun g=>(c * g.1,g.2):=by
  rw [List.zip_map_left]
  rfl
 rw [e]
 refine ⟨fun F=>?_,fun F=>F.scale hc⟩
  -- back: by dividing is awkward; crimps are told by order alone
 have key:∀ {l:List Gm},Fo l->∀ {m:List Gm},l=m.map (fun g=>(c * g.1,g.2))->Fo m:=by
  intro l F
  induction F with
  | @two x y h=>
   intro m e
   match m,e with
   | [a,b],e=>
    simp at e
    obtain ⟨rfl,rfl⟩:=e
    exact .two h
  | @step l r x y z R k F' ih=>
   intro m e
   rw [e] at R
   obtain ⟨l',R',e'⟩:=R.unmap
   match l',e' with
   | a::b::d::r',e'=>
    simp at e'
    obtain ⟨rfl,rfl,rfl,rfl⟩:=e'
    obtain ⟨k1,k2,k3⟩:=k
    refine .step R' ⟨Int.le_of_mul_le_mul_left k1 hc,Int.le_of_mul_le_mul_left k2 hc,k3⟩ (ih ?_)
    rw [List.map_cons]
    congr 1
    exact gm_ext (by show c * a.1 - c * b.1+c * d.1=c * (a.1 - b.1+d.1);rw [Int.mul_add,Int.mul_sub]) rfl
 exact key F rfl
theorem cntF_rot_le {u v:List Int}(he:Ev (u++v)):cntF (u++v)<=cntF (v++u):=by
 have he':Ev (v++u):=by unfold Ev at he ⊢;simp at he ⊢;omega
 have hl:(u++v).length=(v++u).length:=by simp;omega
 refine cntR_le (fun bs=>bs.drop u.length++bs.take u.length) ?_ ?_ ?_
 ·intro bs hb
  simp at hb ⊢
  omega
 ·intro bs bs' hb hb' e
  simp at hb hb'
  obtain ⟨e1,e2⟩:=List.append_inj e (by simp;omega)
  rw [<- List.take_append_drop u.length bs,<- List.take_append_drop u.length bs',e1,e2]
 ·intro bs hb hp
  simp at hb
  rw [okB_iff he (by simp [hb])] at hp
  rw [okB_iff he' (by simp;omega)]
  refine hp.rot ⟨u.zip (bs.take u.length),v.zip (bs.drop u.length),?_,?_⟩
  ·rw [<- List.zip_append (by simp;omega),List.take_append_drop]
  ·rw [<- List.zip_append (by simp;omega)]
theorem cntF_rot {u v:List Int}(he:Ev (u++v)):cntF (u++v)=cntF (v++u):=
 Nat.le_antisymm (cntF_rot_le he) (cntF_rot_le (by unfold Ev at he ⊢;simp at he ⊢;omega))
noncomputable def rowsF (gs:List Int):List (List Bool):=(rowsH gs.length).filter (okB gs)
theorem cntR_or {n:Nat}{P A B:List Bool->Bool}(h:∀ bs:List Bool,bs.length=n->P bs=(A bs||B bs))(h':∀ bs:List Bool,bs.length=n->(A bs&&B bs)=false):cntR n P=cntR n A+cntR n B:=by
 unfold cntR
 have:∀ l:List (List Bool),(∀ x∈l,x.length=n)->(l.filter P).length=(l.filter A).length+(l.filter B).length:=by
  intro l
  induction l with
  | nil=>simp
  | cons x l ih=>
   intro hx
   have e:=h x (hx x (by simp))
   have e':=h' x (hx x (by simp))
   have:=ih fun y hy=>hx y (by simp [hy])
   rw [List.filter_cons,List.filter_cons,List.filter_cons,e]
   cases hA:A x<;>cases hB:B x<;>simp_all<;>omega
 exact this _ fun x hx=>mem_rowsH.mp hx
theorem cntR_snoc (n:Nat)(P:List Bool->Bool):cntR (n+1) P=cntR n (fun r=>P (r++[true]))+cntR n (fun r=>P (r++[false])):=by
 rw [cntR_or (A:=fun bs=>P (bs.take n++[true])&&(bs.drop n == [true])) (B:=fun bs=>P (bs.take n++[false])&&(bs.drop n == [false]))]
 ·rw [cntR_mul (m:=n) (n:=1) (p:=fun r=>P (r++[true])) (q:=fun v=>v == [true]) fun u v hu hv=>by simp [<- hu]]
  rw [cntR_mul (m:=n) (n:=1) (p:=fun r=>P (r++[false])) (q:=fun v=>v == [false]) fun u v hu hv=>by simp [<- hu]]
  have e1:cntR 1 (fun v=>v == [true])=1:=by decide
  have e2:cntR 1 (fun v=>v == [false])=1:=by decide
  rw [e1,e2]
  omega
 ·intro bs hb
  have e:=List.take_append_drop n bs
  generalize bs.take n=u at e ⊢
  have hd:(bs.drop n).length=1:=by simp [hb]
  generalize hv:bs.drop n=v at e hd
  match v,hd with
  | [true],_=>rw [<- e];simp
  | [false],_=>rw [<- e];simp
 ·intro bs hb
  have hd:(bs.drop n).length=1:=by simp [hb]
  generalize bs.drop n=v at hd
  match v,hd with
  | [true],_=>simp
  | [false],_=>simp
theorem rng_zip (a Y:Int):∀ (r:Nat)(ms:List Bool),ms.length=r+1->(List.replicate r a++[Y]).zip ms=rngM a Y ms
 | 0,[m],_=>rfl
 | r+1,m::n::l,h=>by
  rw [List.replicate_succ,List.cons_append,List.zip_cons_cons,rng_zip a Y r (n::l) (by simpa using h)]
  rfl
theorem zip_split {rest:List Int}{X a Y:Int}{r:Nat}{u:List Bool}{m:Bool}{v:List Bool}(hu:u.length=rest.length)(hv:v.length=r+1) :
  (rest++[X]++(List.replicate r a++[Y])).zip (u++[m]++v)=rest.zip u++[(X,m)]++rngM a Y v:=by
 rw [List.zip_append (by simp [hu]),List.zip_append (by simp [hu]),rng_zip _ _ _ _ hv]
 rfl
theorem snoc_of {n:Nat}{u:List Bool}(h:u.length=n+1):∃ p m,u=p++[m]/\p.length=n:=by
 refine ⟨u.dropLast,u.getLast (by intro e;rw [e] at h;simp at h),(List.dropLast_concat_getLast _).symm,by simp [h]⟩
theorem gaps_zip {gs:List Int}{bs:List Bool}(h:bs.length=gs.length):(gs.zip bs).map (·.1)=gs:=by
 rw [List.map_fst_zip (by omega)]
theorem cnt_odd {rest:List Int}{X a Y:Int}{r:Nat}(hX:a<X)(hY:a<Y)(hr:r % 2=1)(he:Ev (rest++[X]++(List.replicate r a++[Y])))(hA:altSum (rest++[X]++(List.replicate r a++[Y]))=0) :
  cntF (rest++[X]++(List.replicate r a++[Y]))=cntF (rest++[X - a+Y]) * cntR (r+1) (fun v=>balB v == 0):=by
 have he':Ev (rest++[X - a+Y]):=by unfold Ev at he ⊢;simp at he ⊢;omega
 have hl:(rest++[X]++(List.replicate r a++[Y])).length=(rest.length+1)+(r+1):=by simp;omega
 have hl':(rest++[X - a+Y]).length=rest.length+1:=by simp
 have hev:=he.1
 rw [hl] at hev
 unfold cntF
 rw [hl,hl']
 refine cntR_mul fun u v hu hv=>?_
 obtain ⟨p,m,rfl,hp⟩:=snoc_of hu
 rw [Bool.eq_iff_iff,okB_iff he (by simp [hp,hv]),Bool.and_eq_true,okB_iff he' (by simp [hp]),zip_split hp hv]
 rw [run_odd (P:=rest.zip p) (X:=(X,m)) hX hY v.length v (Nat.le_refl _) (by omega) (by intro e;rw [e] at hv;simp at hv) (by simp [rngM_len,hp,hv];omega) (by rw [<- zip_split hp hv,gaps_zip (by simp [hp,hv])];exact hA)]
 rw [List.zip_append (by simp [hp])]
 show _/\Fo (rest.zip p++[(X - a+Y,m)])↔Fo (rest.zip p++[(X - a+Y,m)])/\_
 simp [and_comm]
theorem cnt_even {rest:List Int}{X a Y:Int}{r:Nat}(hX:a<X)(hY:a<Y)(hr:r % 2=0)(he:Ev (rest++[X]++(List.replicate r a++[Y])))(hA:altSum (rest++[X]++(List.replicate r a++[Y]))=0)(hC:cntR (r+1) (fun v=>balB v == 1)=cntR (r+1) (fun v=>balB v == -1)) :
  cntF (rest++[X]++(List.replicate r a++[Y]))=cntF (rest++[X]++[Y]) * cntR (r+1) (fun v=>balB v == 1):=by
 have he':Ev (rest++[X]++[Y]):=by unfold Ev at he ⊢;simp at he ⊢;omega
 have hl:(rest++[X]++(List.replicate r a++[Y])).length=(rest.length+1)+(r+1):=by simp;omega
 have hl':(rest++[X]++[Y]).length=rest.length+1+1:=by simp
 have hev:=he.1
 rw [hl] at hev
 unfold cntF
 rw [hl,hl',cntR_snoc]
 have hs:∀ {u v:List Bool},u.length=rest.length+1->(u++v).take (rest.length+1)=u/\(u++v).drop (rest.length+1)=v:=fun hu=>by simp [<- hu]
 rw [cntR_or (A:=fun bs=>okB (rest++[X]++[Y]) (bs.take (rest.length+1)++[true])&&(balB (bs.drop (rest.length+1)) == 1)) (B:=fun bs=>okB (rest++[X]++[Y]) (bs.take (rest.length+1)++[false])&&(balB (bs.drop (rest.length+1)) == -1))]
 ·have c1:=cntR_mul (m:=rest.length+1) (n:=r+1) (P:=fun bs=>okB (rest++[X]++[Y]) (bs.take (rest.length+1)++[true])&&(balB (bs.drop (rest.length+1)) == 1)) (p:=fun u=>okB (rest++[X]++[Y]) (u++[true])) (q:=fun v=>balB v == 1) fun u v hu hv=>by rw [(hs hu).1,(hs hu).2]
  have c2:=cntR_mul (m:=rest.length+1) (n:=r+1) (P:=fun bs=>okB (rest++[X]++[Y]) (bs.take (rest.length+1)++[false])&&(balB (bs.drop (rest.length+1)) == -1)) (p:=fun u=>okB (rest++[X]++[Y]) (u++[false])) (q:=fun v=>balB v == -1) fun u v hu hv=>by rw [(hs hu).1,(hs hu).2]
  rw [c1,c2,<- hC,Nat.add_mul]
 ·intro bs hb
  obtain ⟨u,v,rfl,hu,hv⟩:∃ u v,bs=u++v/\u.length=rest.length+1/\v.length=r+1:=⟨bs.take (rest.length+1),bs.drop (rest.length+1),by simp,by simp [hb],by simp [hb]⟩
  rw [(hs hu).1,(hs hu).2]
  obtain ⟨p,m,rfl,hp⟩:=snoc_of hu
  rw [Bool.eq_iff_iff,okB_iff he (by simp [hp,hv]),Bool.or_eq_true,Bool.and_eq_true,Bool.and_eq_true,okB_iff he' (by simp [hp]),okB_iff he' (by simp [hp]),zip_split hp hv]
  rw [run_even (P:=rest.zip p) (X:=(X,m)) hX hY v.length v (Nat.le_refl _) (by omega) (by simp [rngM_len,hp,hv];omega) (by rw [<- zip_split hp hv,gaps_zip (by simp [hp,hv])];exact hA)]
  have e:∀ b:Bool,(rest++[X]++[Y]).zip (p++[m]++[b])=rest.zip p++[(X,m)]++[(Y,b)]:=fun b=>by
   rw [List.zip_append (by simp [hp]),List.zip_append (by simp [hp])]
   rfl
  rw [e,e]
  simp [and_comm]
 ·intro bs hb
  have:∀ z:Int,((z == 1)&&(z == -1))=false:=fun z=>by
   by_cases h:z=1
   ·subst h;decide
   ·simp [h]
  cases h1:(balB (bs.drop (rest.length+1)) == 1) with
  | false=>simp
  | true=>
   have:=this (balB (bs.drop (rest.length+1)))
   rw [h1,Bool.true_and] at this
   simp [this]
noncomputable def chZ (count:Int):Nat->Int
 | 0=>1
 | k+1=>chZ count k * (count - k) / (k+1)
theorem bal_odd:∀ r:Nat,r<8->r % 2=1->((cntR (r+1) (fun v=>balB v == 0):Nat):Int)=chZ ((r+1:Nat):Int) ((r+1) / 2):=by decide +kernel
theorem bal_even:∀ r:Nat,r<8->r % 2=0->((cntR (r+1) (fun v=>balB v == 1):Nat):Int)=chZ ((r+1:Nat):Int) ((r+1) / 2)/\cntR (r+1) (fun v=>balB v == 1)=cntR (r+1) (fun v=>balB v == -1):=by decide +kernel
theorem alike_cnt:∀ n∈[2,4,6,8],((cntF (List.replicate n 1):Nat):Int)=2 * chZ ((n:Nat):Int) (n / 2 - 1):=by decide +kernel
theorem cntF_alike {n:Nat}(hn:n=2\/n=4\/n=6\/n=8){c:Int}(hc:0<c):((cntF (List.replicate n c):Nat):Int)=2 * chZ ((n:Nat):Int) (n / 2 - 1):=by
 have e:List.replicate n c=(List.replicate n 1).map (c * ·):=by simp
 rw [e,cntF_scale (by unfold Ev;rw [List.length_replicate];omega) hc]
 exact alike_cnt n (by simp;exact hn)
theorem Rot.ev {gs gs':List Int}(R:Rot gs gs')(h:Ev gs):Ev gs':=by unfold Ev at h ⊢;rw [<- R.len];exact h
theorem cntF_Rot {gs gs':List Int}(R:Rot gs gs')(h:Ev gs):cntF gs=cntF gs':=by
 obtain ⟨u,v,rfl,rfl⟩:=R
 exact cntF_rot h
theorem altSum_Rot {gs gs':List Int}(R:Rot gs gs')(h:Ev gs)(hA:altSum gs=0):altSum gs'=0:=by
 obtain ⟨u,v,rfl,rfl⟩:=R
 exact altSum_rot h.1 hA
theorem run_rot {rest:List Int}{X a Y:Int}{r:Nat}:Rot (List.replicate r a++Y::rest++[X]) (rest++[X]++(List.replicate r a++[Y])):=⟨List.replicate r a++[Y],rest++[X],by simp,by simp⟩
theorem ways_odd {rest:List Int}{X a Y:Int}{r:Nat}(hX:a<X)(hY:a<Y)(hr:r % 2=1)(he:Ev (List.replicate r a++Y::rest++[X]))(hA:altSum (List.replicate r a++Y::rest++[X])=0) :
  ((cntF (List.replicate r a++Y::rest++[X]):Nat):Int)=chZ ((r+1:Nat):Int) ((r+1) / 2) * cntF (rest++[X+Y - a])/\altSum (rest++[X+Y - a])=0/\Ev (rest++[X+Y - a]):=by
 have hr8:r<8:=by have:=he.2.2;simp at this;omega
 have he2:=run_rot.ev he
 have hA2:=altSum_Rot run_rot he hA
 have eX:X+Y - a=X - a+Y:=by omega
 refine ⟨?_,?_,?_⟩
 ·rw [cntF_Rot run_rot he,cnt_odd hX hY hr he2 hA2,Int.natCast_mul,bal_odd r hr8 hr,eX,Int.mul_comm]
 ·obtain ⟨k,rfl⟩:∃ k,r=2 * k+1:=⟨r / 2,by omega⟩
  rw [eX]
  clear he2 he hr8 hr
  rw [List.append_assoc] at hA2
  induction k with
  | zero=>
   have:=altSum_cj rest [] X a Y
   rw [<- this]
   simpa using hA2
  | succ k ih=>
   refine ih ?_ ?_
   ·rw [List.append_assoc] at hA ⊢
    have:=altSum_rep2 [] a (2 * k+1) (Y::rest++[X])
    rw [List.nil_append,List.nil_append] at this
    rw [<- this]
    exact hA
   ·have:=altSum_rep2 (rest++[X]) a (2 * k+1) [Y]
    rw [List.append_assoc,List.append_assoc] at this
    rw [<- this]
    exact hA2
 ·have:=he.1
  have h2:=he.2
  unfold Ev
  simp at this h2 ⊢
  omega
theorem ways_even {rest:List Int}{X a Y:Int}{r:Nat}(hX:a<X)(hY:a<Y)(hr:r % 2=0)(he:Ev (List.replicate r a++Y::rest++[X]))(hA:altSum (List.replicate r a++Y::rest++[X])=0) :
  ((cntF (List.replicate r a++Y::rest++[X]):Nat):Int)=chZ ((r+1:Nat):Int) ((r+1) / 2) * cntF (Y::rest++[X])/\altSum (Y::rest++[X])=0/\Ev (Y::rest++[X]):=by
 have hr8:r<8:=by have:=he.2.2;simp at this;omega
 have he2:=run_rot.ev he
 have hA2:=altSum_Rot run_rot he hA
 obtain ⟨b1,b2⟩:=bal_even r hr8 hr
 have he3:Ev (Y::rest++[X]):=by
  have:=he.1
  have h2:=he.2
  unfold Ev
  simp at this h2 ⊢
  omega
 refine ⟨?_,?_,he3⟩
 ·have R:Rot (Y::rest++[X]) (rest++[X]++[Y]):=⟨[Y],rest++[X],by simp,by simp⟩
  rw [cntF_Rot run_rot he,cnt_even hX hY hr he2 hA2 b2,Int.natCast_mul,b1,<- cntF_Rot R he3,Int.mul_comm]
 ·obtain ⟨k,rfl⟩:∃ k,r=2 * k:=⟨r / 2,by omega⟩
  clear he2 he hr8 hr hA2 b1 b2
  induction k with
  | zero=>simpa using hA
  | succ k ih=>
   refine ih ?_
   rw [List.append_assoc] at hA ⊢
   have:=altSum_rep2 [] a (2 * k) (Y::rest++[X])
   rw [List.nil_append,List.nil_append] at this
   rw [<- this]
   exact hA
theorem chZ_pos:∀ r:Nat,r<8->0<chZ ((r+1:Nat):Int) ((r+1) / 2):=by decide +kernel
theorem run_len:∀ (l:List Int)(a:Int),(∀ x∈l,a<=x)->(∃ x∈l,a<x)->∃ r Y rest,l=List.replicate r a++Y::rest/\a<Y
 | [],a,_,⟨x,h,_⟩=>by cases h
 | b::l,a,h,⟨x,hx,h2⟩=>by
  by_cases e:b=a
  ·subst e
   obtain ⟨r,Y,rest,e,h3⟩:=run_len l b (fun y hy=>h y (by simp [hy])) ⟨x,(List.mem_cons.mp hx).elim (fun e=>by omega) id,h2⟩
   exact ⟨r+1,Y,rest,by rw [e,List.replicate_succ];rfl,h3⟩
  ·exact ⟨0,b,l,rfl,by have:=h b (by simp);omega⟩
theorem down_to {p:Nat->Prop}:∀ (m:Nat),(∀ k,k<m->p (k+1)->p k)->p m->∀ j,j<=m->p j
 | 0,_,h,j,hj=>by rwa [Nat.le_zero.mp hj]
 | m+1,hs,h,j,hj=>by
  by_cases e:j=m+1
  ·rwa [e]
  ·exact down_to m (fun k hk=>hs k (by omega)) (hs m (by omega) h) j (by omega)
noncomputable def prevK (n k:Nat):Nat:=if k=0 then n - 1 else k - 1
theorem getD_mem {gs:List Int}{k:Nat}(h:k<gs.length):gs.getD k 0∈gs:=by
 rw [List.getD_eq_getElem?_getD,List.getElem?_eq_getElem h]
 exact List.getElem_mem h
theorem ahead_ex {gs:List Int}{a:Int}(hm:a∈gs)(hle:∀ x∈gs,a<=x)(hgt:∃ x∈gs,a<x):∃ k,k<gs.length/\gs.getD k 0=a/\a<gs.getD (prevK gs.length k) 0:=by
 have hat:∀ {x:Int},x∈gs->∃ k,k<gs.length/\gs.getD k 0=x:=fun h=>by
  obtain ⟨k,hk,e⟩:=List.getElem_of_mem h
  exact ⟨k,hk,by rw [List.getD_eq_getElem?_getD,List.getElem?_eq_getElem hk];exact e⟩
 cases Classical.em (∃ k,k<gs.length/\gs.getD k 0=a/\a<gs.getD (prevK gs.length k) 0) with
 | inl h=>exact h
 | inr h=>
  exfalso
  have H:∀ k,k<gs.length->gs.getD k 0=a->gs.getD (prevK gs.length k) 0=a:=fun k hk e=>by
   have hp:prevK gs.length k<gs.length:=by unfold prevK;split<;>omega
   have:=hle _ (getD_mem hp)
   by_cases h':a<gs.getD (prevK gs.length k) 0
   ·exact absurd ⟨k,hk,e,h'⟩ h
   ·omega
  obtain ⟨k0,hk0,e0⟩:=hat hm
  obtain ⟨x,hx,hax⟩:=hgt
  obtain ⟨k1,hk1,e1⟩:=hat hx
  have hs:∀ k,k+1<gs.length->gs.getD (k+1) 0=a->gs.getD k 0=a:=fun k hk e=>by
   have:=H (k+1) hk e
   unfold prevK at this
   rw [if_neg (by omega)] at this
   exact this
  have h0:gs.getD 0 0=a:=down_to (p:=fun k=>gs.getD k 0=a) k0 (fun k hk=>hs k (by omega)) e0 0 (by omega)
  have hl:=H 0 (by omega) h0
  unfold prevK at hl
  rw [if_pos rfl] at hl
  have:=down_to (p:=fun k=>gs.getD k 0=a) (gs.length - 1) (fun k hk=>hs k (by omega)) hl k1 (by omega)
  omega
theorem ahead_dec {gs:List Int}{a:Int}{k:Nat}(he:Ev gs)(hA:altSum gs=0)(hle:∀ x∈gs,a<=x)(hk:k<gs.length)(e:gs.getD k 0=a)(hp:a<gs.getD (prevK gs.length k) 0) :
  ∃ r Y rest X,gs.drop k++gs.take k=List.replicate (r+1) a++Y::rest++[X]/\a<Y/\a<X:=by
 have R:Rot gs (gs.drop k++gs.take k):=⟨gs.take k,gs.drop k,by simp,rfl⟩
 have hA':=altSum_Rot R he hA
 have he':=R.ev he
 have hl:(gs.drop k++gs.take k).length=gs.length:=by simp;omega
 have hh:(gs.drop k++gs.take k).getD 0 0=a:=by
  rw [<- e,List.getD_eq_getElem?_getD,List.getD_eq_getElem?_getD,List.getElem?_append_left (by simp;omega),List.getElem?_drop]
  simp
 have hlast:a<(gs.drop k++gs.take k).getD (gs.length - 1) 0:=by
  have:(gs.drop k++gs.take k).getD (gs.length - 1) 0=gs.getD (prevK gs.length k) 0:=by
   rw [List.getD_eq_getElem?_getD,List.getD_eq_getElem?_getD]
   unfold prevK
   by_cases h0:k=0
   ·subst h0
    simp
   ·rw [if_neg h0,List.getElem?_append_right (by simp;omega),List.getElem?_take]
    simp
    rw [if_pos (by omega)]
    congr 2
    omega
  rw [this]
  exact hp
 have hle':∀ x∈gs.drop k++gs.take k,a<=x:=fun x hx=>hle x (by
  rcases List.mem_append.mp hx with h|h
  ·exact List.mem_of_mem_drop h
  ·exact List.mem_of_mem_take h)
 generalize gs.drop k++gs.take k=l at *
 match l,hh with
 | b::l',hh=>
  have hb:b=a:=hh
  subst hb
  obtain ⟨r,Y,rest,e1,hY⟩:=run_len (b::l') b hle' ⟨_,getD_mem (by rw [hl];have:=he.2.1;omega),hlast⟩
  match r,e1 with
  | 0,e1=>
   simp at e1
   omega
  | r+1,e1=>
   rw [e1] at hlast hl hA' he' ⊢
   by_cases hr:rest=[]
   ·exfalso
    subst hr
    have hn:=he'.1
    simp at hn
    have:∀ r:Nat,r % 2=1->altSum (List.replicate r b++[Y])=b - Y:=fun r hr=>by
     obtain ⟨k,rfl⟩:∃ k,r=2 * k+1:=⟨r / 2,by omega⟩
     clear hr
     induction k with
     | zero=>simp [altSum]
     | succ k ih=>
      have:=altSum_rep2 [] b (2 * k+1) [Y]
      rw [List.nil_append,List.nil_append] at this
      show altSum (List.replicate (2 * k+1+2) b++[Y])=_
      rw [this,ih]
    rw [this _ (by omega)] at hA'
    omega
   ·refine ⟨r,Y,rest.dropLast,rest.getLast hr,?_,hY,?_⟩
    ·rw [List.append_assoc,List.cons_append,List.dropLast_concat_getLast]
    ·have e2:List.replicate (r+1) b++Y::rest=(List.replicate (r+1) b++Y::rest.dropLast)++[rest.getLast hr]:=by rw [List.append_assoc,List.cons_append,List.dropLast_concat_getLast]
     have e3:gs.length - 1=(List.replicate (r+1) b++Y::rest.dropLast).length:=by
      rw [<- hl,e2]
      simp
     rw [e2,List.getD_eq_getElem?_getD,e3,List.getElem?_concat_length] at hlast
     exact hlast
noncomputable def bnd (n:Nat):Int:=if n<=2 then 2 else if n<=4 then 8 else if n<=6 then 30 else 112
theorem bnd_step:∀ n:Nat,n<9->∀ r:Nat,r<8->r+2<=n->n % 2=0->chZ ((r+1:Nat):Int) ((r+1) / 2) * (if r % 2=0 then bnd (n - r) else bnd (n - r - 1))<=bnd n:=by decide +kernel
theorem cntF_bd:∀ (n:Nat)(gs:List Int),gs.length<=n->Ev gs->altSum gs=0->(∀ g∈gs,1<=g)->0<cntF gs/\(cntF gs:Int)<=bnd gs.length
 | 0,gs,h,he,_,_=>by have:=he.2.1;omega
 | n+1,gs,h,he,hA,hpos=>by
  obtain ⟨a,hm,hle⟩:∃ a,a∈gs/\∀ x∈gs,a<=x:=by
   have:∀ l:List Int,l≠[]->∃ a,a∈l/\∀ x∈l,a<=x:=by
    intro l
    induction l with
    | nil=>intro h;exact absurd rfl h
    | cons b l ih=>
     intro _
     by_cases hl:l=[]
     ·subst hl;exact ⟨b,by simp,by simp⟩
     ·obtain ⟨a,h1,h2⟩:=ih hl
      by_cases hab:a<=b
      ·exact ⟨a,by simp [h1],by simpa using ⟨hab,h2⟩⟩
      ·refine ⟨b,by simp,fun x hx=>?_⟩
       rcases List.mem_cons.mp hx with rfl|hx
       ·omega
       ·have:=h2 x hx;omega
   exact this gs (fun e=>by rw [e] at he;have:=he.2.1;simp at this)
  by_cases hgt:∃ x∈gs,a<x
  ·obtain ⟨k,hk,e,hp⟩:=ahead_ex hm hle hgt
   have R:Rot gs (gs.drop k++gs.take k):=⟨gs.take k,gs.drop k,by simp,rfl⟩
   obtain ⟨r,Y,rest,X,e1,hY,hX⟩:=ahead_dec he hA hle hk e hp
   have hpos':∀ g∈gs.drop k++gs.take k,1<=g:=fun x hx=>hpos x (by
    rcases List.mem_append.mp hx with h|h
    ·exact List.mem_of_mem_drop h
    ·exact List.mem_of_mem_take h)
   have hlen:=R.len
   rw [e1] at R hpos' hlen
   have he':=R.ev he
   have hA':=altSum_Rot R he hA
   have hr8:r+1<8:=by have:=he'.2.2;simp at this;omega
   have hc:=chZ_pos (r+1) hr8
   rw [cntF_Rot R he]
   have key:∀ m:Nat,0<m->0<chZ ((r+1+1:Nat):Int) ((r+1+1) / 2) * (m:Int):=fun m hm=>Int.mul_pos hc (by omega)
   have hst:=bnd_step gs.length (by have:=he.2.2;omega) (r+1) (by omega) (by simp at hlen;omega) he.1
   have kle:∀ (m:Nat)(B:Int),(m:Int)<=B->chZ ((r+1+1:Nat):Int) ((r+1+1) / 2) * (m:Int)<=chZ ((r+1+1:Nat):Int) ((r+1+1) / 2) * B:=fun m B h=>Int.mul_le_mul_of_nonneg_left h (Int.le_of_lt hc)
   by_cases hr:(r+1) % 2=0
   ·obtain ⟨h1,h2,h3⟩:=ways_even hX hY hr he' hA'
    obtain ⟨b1,b2⟩:=cntF_bd n _ (by simp at hlen ⊢;omega) h3 h2 fun g hg=>hpos' g (by rw [List.append_assoc];exact List.mem_append.mpr (.inr hg))
    have k1:=key _ b1
    have k2:=kle _ _ b2
    rw [if_pos hr] at hst
    have e2:(Y::rest++[X]).length=gs.length - (r+1):=by simp at hlen ⊢;omega
    rw [e2] at k2
    omega
   ·obtain ⟨h1,h2,h3⟩:=ways_odd hX hY (by omega) he' hA'
    obtain ⟨b1,b2⟩:=cntF_bd n _ (by simp at hlen ⊢;omega) h3 h2 fun g hg=>by
     rcases List.mem_append.mp hg with hg|hg
     ·exact hpos' g (by simp [hg])
     ·have h4:=hpos' X (by simp)
      rw [List.mem_singleton.mp hg]
      omega
    have k1:=key _ b1
    have k2:=kle _ _ b2
    rw [if_neg hr] at hst
    have e2:(rest++[X+Y - a]).length=gs.length - (r+1) - 1:=by simp at hlen ⊢;omega
    rw [e2] at k2
    omega
  ·have e:gs=List.replicate gs.length a:=List.eq_replicate_of_mem fun x hx=>by
    have:=hle x hx
    by_cases h:a<x
    ·exact absurd ⟨x,hx,h⟩ hgt
    ·omega
   have hn:gs.length=2\/gs.length=4\/gs.length=6\/gs.length=8:=by unfold Ev at he;omega
   have h1:=cntF_alike hn (c:=a) (by have:=hpos a hm;omega)
   rw [<- e] at h1
   have h2:∀ n∈[2,4,6,8],0<2 * chZ ((n:Nat):Int) (n / 2 - 1)/\2 * chZ ((n:Nat):Int) (n / 2 - 1)<=bnd n:=by decide +kernel
   have:=h2 gs.length (by simp;exact hn)
   omega
noncomputable def RS (bs:List Bool):D:=.str (mStr bs)
theorem rowsH_len:∀ n:Nat,(rowsH n).length=2 ^ n
 | 0=>rfl
 | n+1=>by
  rw [rowsH,List.length_append,List.length_map,List.length_map,rowsH_len n,Nat.pow_succ]
  omega
theorem rowsH_small {n:Nat}(h:n<=8):(rowsH n).length<=256:=by
 rw [rowsH_len]
 exact Nat.pow_le_pow_right (by decide) h
noncomputable def preS (p:Str):D->D
 | .str x=>.str (p++x)
 | d=>d
theorem preS_RS (b:Bool)(bs:List Bool):preS (sgn b) (RS bs)=RS (b::bs):=by
 show D.str (sgn b++mStr bs)=D.str (mStr (b::bs))
 rw [sgn_is]
 congr 1
 show (⟨#[cpv b]++(bs.map cpv).toArray⟩:Str)=⟨((b::bs).map cpv).toArray⟩
 simp
theorem filter_true {α:Type}(l:List α):l.filter (fun _=>true)=l:=by simp
theorem pre_rows (b:Bool)(l:List (List Bool)):((l.map RS).filter (fun _=>true)).map (preS (sgn b))=(l.map (b::·)).map RS:=by
 rw [filter_true,List.map_map,List.map_map]
 exact List.map_congr_left fun bs _=>preS_RS b bs
theorem w_pre {b:Bool}{c:Str}(hc:c=sgn b){n:Nat}(hn:n<=8){i:Nat}{ρ:Rho}{a:Nat}{μ:Hm}{m v:ME}(hm:W (m ρ μ) fun p=>p=(.loc a,μ))(hv:∀ d μ' R,R (d,μ')->W (v (ρ++[some d]) μ') R)(ha:μ[a]? = some (.lst ((rowsH n).map RS))){Q:D×Hm->Prop}
  (H:∀ μ',μ <+: μ'->μ'[μ.length]? = some (.lst (((rowsH n).map (b::·)).map RS))->Q (.loc μ.length,μ')):W (mCompI (iSeqD m) mTrue (mOp addD (mC (.str c)) v) ρ μ) Q:=by
 subst hc
 have hr:=rowsH_small hn
 refine w_comp (xs:=(rowsH n).map RS) (p:=fun _=>true) (v:=preS (sgn b)) ?_
 rw [w_iSeq]
 refine W_mono hm fun p hp=>?_
 subst hp
 refine (w_seqL ha).mpr ?_
 refine ⟨src_loc ha,rfl,by rw [sizeLine_eq,List.length_map];omega,?_,?_,?_⟩
 ·intro d μ' _ _
  exact w_mTrue.mpr ⟨rfl,List.prefix_refl _⟩
 ·intro d μ' hd _ hp
  obtain ⟨bs,hbs,rfl⟩:=List.mem_map.mp hd
  have hl:=mem_rowsH.mp hbs
  rw [w_mOp,w_mC]
  refine hv _ _ _ ?_
  refine (w_addS (by rw [mStr_len,sizeLine_eq,sgn_is];show 1+bs.length<=_;omega)).mpr ⟨?_,List.prefix_refl _⟩
  rfl
 ·intro μ' hp hg
  rw [pre_rows] at hg
  exact H μ' hp hg
theorem s_rows_of (k:Nat){n:Nat}(hn:n<=8){μ:Hm}(Q:D×Hm->Prop)(H:∀ a μ',μ <+: μ'->μ'[a]? = some (.lst ((rowsH n).map RS))->Q (.loc a,μ')):W (f (k+1) "rows_of" [.int (n:Int)] μ) Q:=by
 rw [ev_p_rows_of,W_fin]
 simp only [w_mSeq,w_mSet,w_mLst,w_mCons,w_mNil,w_mC]
 refine ⟨len1,?_⟩
 simp only [List.set_cons_zero,List.set_cons_succ,w_mForI,w_iRng1 (j:=0),w_mCons,w_mNil,w_mVar0]
 refine ⟨by omega,?_⟩
 rw [Int.toNat_natCast]
 refine w_forR (fun i ρ μ'=>∃ a o,μ <+: μ'/\μ'[a]? = some (.lst ((rowsH i).map RS))/\ρ=[some (.int (n:Int)),some (.loc a),o]) ⟨_,_,pre_snoc _ _,get_last _ _,rfl⟩ ?_ ?_
 ·rintro i ρ μ' hi ⟨a,o,hp,ha,rfl⟩
  refine ⟨_,rfl,?_⟩
  have hr:=rowsH_small (n:=i) (by omega)
  simp only [List.set_cons_zero,List.set_cons_succ,w_mSet,w_mOp]
  refine w_pre (b:=false) (n:=i) rfl (by omega) (i:=0) ?_ ?_ ha fun μ1 p1 g1=>?_
  ·simp only [w_mVarS,w_mVar0]
  ·intro d μ'' R h
   simp only [List.cons_append,List.nil_append,w_mVarS,w_mVar0]
   exact h
  ·refine w_pre (b:=true) (n:=i) rfl (by omega) (i:=0) ?_ ?_ (pre_get p1 ha) fun μ2 p2 g2=>?_
   ·simp only [w_mVarS,w_mVar0]
   ·intro d μ'' R h
    simp only [List.cons_append,List.nil_append,w_mVarS,w_mVar0]
    exact h
   ·refine (w_addL (pre_get p2 g1) g2 (by simp only [List.length_map];rw [sizeLine_eq];omega)).mpr ?_
    refine ⟨_,_,((hp.trans p1).trans p2).trans (pre_snoc _ _),?_,rfl⟩
    rw [get_last,rowsH,List.map_append]
 ·rintro ρ μ' ⟨a,o,hp,ha,rfl⟩
  simp only [w_mRet,w_mVarS,w_mVar0]
  exact H a μ' hp ha
noncomputable def unB:D->List Bool
 | .str x=>x.cps.toList.map (· == 118)
 | _=>[]
theorem unB_RS (bs:List Bool):unB (RS bs)=bs:=by
 show ((bs.map cpv).toArray.toList).map (· == 118)=bs
 rw [List.toList_toArray,List.map_map]
 have:((· == 118) ∘ cpv)=id:=by funext b;cases b<;>rfl
 rw [this,List.map_id]
theorem s_all_marksF (k:Nat){μ:Hm}{a:Nat}{gs:List Int}(ha:μ[a]? = some (.lst (gs.map D.int)))(hG:GoodG gs)(Q:D×Hm->Prop)(H:∀ b μ',μ <+: μ'->μ.length<=b->μ'[b]? = some (.lst ((rowsF gs).map RS))->Q (.loc b,μ')):W (f (k+4) "all_marks" [.loc a] μ) Q:=by
 have hrg:=hG.rgl
 rw [ev_p_all_marks,W_fin]
 simp only [w_mSeq,w_mDrop,w_mCall,w_mCons,w_mNil,w_mVar0]
 refine s_check_round _ a gs hG _ _ ha fun μ1 p1=>?_
 have ha1:=pre_get p1 ha
 simp only [w_mRet]
 refine w_comp (xs:=(rowsH gs.length).map RS) (p:=fun d=>okB gs (unB d)) (v:=fun d=>d) ?_
 simp only [w_iSeq,w_mCall,w_mCons,w_mNil,w_mVar0]
 refine (w_lenL ha1).mpr ?_
 rw [List.length_map]
 refine s_rows_of _ (by omega) _ fun b μ2 p2 g2=>?_
 refine (w_seqL g2).mpr ?_
 have hr:=rowsH_small (n:=gs.length) (by omega)
 refine ⟨src_loc g2,rfl,by rw [sizeLine_eq,List.length_map];omega,?_,?_,?_⟩
 ·intro d μ' hd hp
  obtain ⟨bs,hbs,rfl⟩:=List.mem_map.mp hd
  have hl:=mem_rowsH.mp hbs
  simp only [List.cons_append,List.nil_append,w_mTest,w_mOp,w_mCall,w_mCons,w_mNil,w_mVar0,w_mVarS,w_mC]
  refine s_folded_order _ (pre_get hp (pre_get p2 ha1)) hG hl _ fun d μ3 p3 h3=>?_
  rw [unB_RS]
  unfold okB
  cases hf:foldP 4 (wdsP gs bs) with
  | none=>
   rw [hf] at h3
   cases h3
   exact w_isnotNN.mpr ⟨rfl,p3⟩
  | some os=>
   rw [hf] at h3
   obtain ⟨c,rfl,_⟩:=h3
   exact w_isnotLN.mpr ⟨rfl,p3⟩
 ·intro d μ' _ _ _
  simp only [List.cons_append,List.nil_append,w_mVar0,w_mVarS]
  exact ⟨trivial,List.prefix_refl _⟩
 ·intro μ' hp hg
  refine H _ μ' ((p1.trans p2).trans hp) (pre_len (p1.trans p2)) ?_
  rw [hg]
  congr 2
  unfold rowsF
  rw [List.filter_map,List.map_map]
  have:((fun d=>okB gs (unB d)) ∘ RS)=okB gs:=by funext bs;show okB gs (unB (RS bs))=_;rw [unB_RS]
  rw [this]
  rfl
theorem s_choose (k:Nat){m:Nat}{c:Int}(hm:m<=100)(hc:-1000<c/\c<1000){μ:Hm}(Q:D×Hm->Prop)(H:Q (.int (chZ c m),μ)):W (f (k+1) "ways_to_choose" [.int (m:Int),.int c] μ) Q:=by
 rw [ev_p_ways_to_choose,W_fin]
 simp only [w_mSeq,w_mSet,w_mC,List.set_cons_zero,List.set_cons_succ,w_mForI,w_iRng1 (j:=0),w_mCons,w_mNil,w_mVar0]
 refine ⟨by omega,?_⟩
 rw [Int.toNat_natCast]
 refine w_forR (fun i ρ μ'=>μ=μ'/\∃ o,ρ=[some (.int (m:Int)),some (.int c),some (.int (chZ c i)),o]) ⟨rfl,_,rfl⟩ ?_ ?_
 ·rintro i ρ μ' hi ⟨rfl,o,rfl⟩
  refine ⟨_,rfl,?_⟩
  simp only [List.set_cons_zero,List.set_cons_succ,w_mSet,w_mOp,w_mVarS,w_mVar0,w_mC,w_subI,w_addI]
  refine (w_mulI (.inr ⟨by omega,by omega⟩)).mpr ?_
  refine (w_fdivI (by omega) (by omega)).mpr ⟨rfl,some (.int (0+(i:Int))),?_⟩
  simp only [Int.zero_add]
  rfl
 ·rintro ρ μ' ⟨rfl,o,rfl⟩
  simp only [w_mRet,w_mVarS,w_mVar0]
  exact H
theorem minAt_is {is:List Int}(h0:0<is.length):minAt is∈is/\∀ x∈is,minAt is<=x:=by
 unfold minAt
 obtain ⟨h1,h2⟩:=argBest_lt (fun i=>is.getD i 0) (is.length - 1)
 refine ⟨getD_mem (by omega),fun x hx=>?_⟩
 obtain ⟨k,hk,e⟩:=List.getElem_of_mem hx
 have:=h2 k (by omega)
 have e2:is.getD k 0=x:=by rw [List.getD_eq_getElem?_getD,List.getElem?_eq_getElem hk];exact e
 rw [<- e2]
 exact this
theorem maxAt_is {is:List Int}(h0:0<is.length):maxAt is∈is/\∀ x∈is,x<=maxAt is:=by
 unfold maxAt
 obtain ⟨h1,h2⟩:=argBest_gt (fun i=>is.getD i 0) (is.length - 1)
 refine ⟨getD_mem (by omega),fun x hx=>?_⟩
 obtain ⟨k,hk,e⟩:=List.getElem_of_mem hx
 have:=h2 k (by omega)
 have e2:is.getD k 0=x:=by rw [List.getD_eq_getElem?_getD,List.getElem?_eq_getElem hk];exact e
 rw [<- e2]
 exact this
theorem ev_of {gs:List Int}(hG:GoodG gs):Ev gs:=by have:=hG.len;unfold Ev;omega
theorem good_of {gs:List Int}(he:Ev gs)(hp:∀ g∈gs,1<=g)(hA:altSum gs=0):GoodG gs:=⟨by unfold Ev at he;omega,hp,hA⟩
theorem at_prev {gs:List Int}{k:Nat}(h:k<gs.length):atI (gs.map D.int) ((k:Int) - 1)=some (.int (gs.getD (prevK gs.length k) 0)):=by
 unfold atI
 have e:ixN (gs.map D.int).length ((k:Int) - 1)=some (prevK gs.length k):=by
  rw [List.length_map]
  unfold ixN prevK
  by_cases c:k=0
  ·subst c
   rw [if_neg (by omega),if_pos (by omega),if_pos rfl]
   congr 1
   omega
  ·rw [if_pos (by omega),if_pos (by omega),if_neg c]
   congr 1
   omega
 have hp:prevK gs.length k<gs.length:=by unfold prevK;split<;>omega
 rw [e,Option.bind_some,List.getElem?_map,List.getElem?_eq_getElem hp,List.getD_eq_getElem?_getD,List.getElem?_eq_getElem hp]
 rfl
noncomputable def begB (gs:List Int)(a:Int)(k:Nat):Bool:=(gs.getD k 0 == a)&&decide (a<gs.getD (prevK gs.length k) 0)
noncomputable def begD (gs:List Int)(a:Int):D->Bool
 | .tup [.int i,.int _]=>begB gs a i.toNat
 | _=>false
noncomputable def numZ:D->D
 | .tup [i,_]=>i
 | d=>d
theorem numD_ints (gs:List Int):numD 0 (gs.map D.int)=(List.range gs.length).map fun k=>.tup [.int (k:Int),.int (gs.getD k 0)]:=by
 apply List.ext_getElem?
 intro i
 rw [numD_get,List.getElem?_map,List.getElem?_map]
 by_cases h:i<gs.length
 ·rw [List.getElem?_eq_getElem h,List.getElem?_range h]
  simp only [Option.map_some,List.getD_eq_getElem?_getD,List.getElem?_eq_getElem h,Nat.zero_add,Option.getD_some]
 ·rw [List.getElem?_eq_none (by omega),List.getElem?_eq_none (by simp;omega)]
  rfl
theorem beg_rows (gs:List Int)(a:Int):((numD 0 (gs.map D.int)).filter (begD gs a)).map numZ=((List.range gs.length).filter (begB gs a)).map fun k=>.int ((k:Nat):Int):=by
 rw [numD_ints,List.filter_map,List.map_map]
 have:(begD gs a ∘ fun (k:Nat)=>D.tup [.int (k:Int),.int (gs.getD k 0)])=begB gs a:=by
  funext k
  show begB gs a ((k:Int)).toNat=_
  rw [Int.toNat_natCast]
 rw [this]
 rfl
theorem s_least_ahead (k:Nat){μ:Hm}{p:Nat}{gs:List Int}(ha:μ[p]? = some (.lst (gs.map D.int)))(hn:2<=gs.length/\gs.length<=8)(hgt:∃ x∈gs,minAt gs<x)(Q:D×Hm->Prop)
  (H:∀ j b μ',j<gs.length->gs.getD j 0=minAt gs->minAt gs<gs.getD (prevK gs.length j) 0->μ <+: μ'->μ'[b]? = some (.lst ((gs.drop j++gs.take j).map D.int))->Q (.loc b,μ')):W (f (k+1) "least_ahead" [.loc p] μ) Q:=by
 obtain ⟨hm,hle⟩:=minAt_is (is:=gs) (by omega)
 rw [ev_p_least_ahead,W_fin]
 simp only [w_mSeq,w_mSet,w_mCall,w_mCons,w_mNil,w_mVar0]
 refine (w_minL ha (by omega)).mpr ?_
 generalize minAt gs=a at hm hle hgt H
 simp only [List.set_cons_zero,List.set_cons_succ,w_mOp]
 refine w_compT (xs:=numD 0 (gs.map D.int)) (x:=fun d=>match d with|.tup [i,g]=>[some i,some g]|_=>[]) (p:=begD gs a) (v:=numZ) ?_
 refine w_iEnum ?_
 simp only [w_mCons,w_mNil,w_mVar0]
 refine ⟨p,_,rfl,ha,src_enum ha,by rw [numD_len],by rw [numD_len,List.length_map,sizeLine_eq];omega,?_,?_,?_,?_⟩
 ·intro d μ' hd
  rw [numD_ints] at hd
  obtain ⟨i,hi,rfl⟩:=List.mem_map.mp hd
  rfl
 ·intro d μ' hd hp
  rw [numD_ints] at hd
  obtain ⟨i,hi,rfl⟩:=List.mem_map.mp hd
  have hi:=List.mem_range.mp hi
  simp only [List.cons_append,List.nil_append,w_mAndT,w_mTest,w_mOp,w_mVar0,w_mVarS,w_mC,w_eqI]
  show if (gs.getD i 0 == a)=true then _ else _
  have e:begD gs a (.tup [.int (i:Int),.int (gs.getD i 0)])=begB gs a i:=by
   show begB gs a ((i:Int)).toNat=_
   rw [Int.toNat_natCast]
  rw [e]
  unfold begB
  by_cases hc:(gs.getD i 0 == a)=true
  ·rw [if_pos hc,hc,Bool.true_and]
   simp only [w_subI]
   refine (w_itL (pre_get hp ha) (at_prev hi)).mpr ?_
   exact w_gtI.mpr ⟨rfl,List.prefix_refl _⟩
  ·rw [if_neg hc]
   exact ⟨by simp only [Bool.not_eq_true] at hc;rw [hc];rfl,List.prefix_refl _⟩
 ·intro d μ' hd _ hp
  rw [numD_ints] at hd
  obtain ⟨i,hi,rfl⟩:=List.mem_map.mp hd
  simp only [List.cons_append,List.nil_append,w_mVar0,w_mVarS]
  exact ⟨rfl,List.prefix_refl _⟩
 ·intro μ1 p1 g1
  rw [beg_rows] at g1
  obtain ⟨j0,hj0,e0,h0⟩:=ahead_ex hm hle hgt
  have hin:j0∈(List.range gs.length).filter (begB gs a):=List.mem_filter.mpr ⟨List.mem_range.mpr hj0,by unfold begB;rw [Bool.and_eq_true,beq_iff_eq,decide_eq_true_eq];exact ⟨e0,h0⟩⟩
  obtain ⟨j,r,er⟩:∃ j r,(List.range gs.length).filter (begB gs a)=j::r:=List.exists_cons_of_ne_nil (fun e=>by rw [e] at hin;cases hin)
  have hj:j∈(List.range gs.length).filter (begB gs a):=by rw [er];simp
  obtain ⟨hj1,hj2⟩:=List.mem_filter.mp hj
  have hj1:=List.mem_range.mp hj1
  unfold begB at hj2
  rw [Bool.and_eq_true,beq_iff_eq,decide_eq_true_eq] at hj2
  rw [er,List.map_cons] at g1
  rw [w_mC]
  refine (w_itL g1 at_zero).mpr ?_
  have ha1:=pre_get p1 ha
  simp only [List.set_cons_zero,List.set_cons_succ,w_mRet,w_mOp]
  refine w_sliceL ?_
  simp only [w_mVar0,w_mVarS,w_mPart,w_mNoPart]
  refine ⟨p,rfl,_,ha1,?_⟩
  refine w_sliceL ?_
  simp only [w_mVar0,w_mVarS,w_mPart,w_mNoPart]
  refine ⟨p,rfl,_,pre_get (pre_snoc _ _) ha1,?_⟩
  rw [cut_from _ (by rw [List.length_map];omega),cut_to _ (by rw [List.length_map];omega),Int.toNat_natCast]
  refine (w_addL (pre_get (pre_snoc _ _) (get_last _ _)) (get_last _ _) (by rw [List.length_drop,List.length_take,List.length_map,sizeLine_eq];omega)).mpr ?_
  refine H j _ _ hj1 hj2.1 hj2.2 (p1.trans (((pre_snoc _ _).trans (pre_snoc _ _)).trans (pre_snoc _ _))) ?_
  rw [get_last,List.map_append,List.map_drop,List.map_take]
theorem run_at {r:Nat}{a Y:Int}{q:List Int}{i:Nat}(hi:i<=r):((List.replicate (r+1) a++q).map D.int)[i]? = some (.int a):=by
 rw [List.getElem?_map,List.getElem?_append_left (by simp;omega),List.getElem?_replicate_of_lt (by omega)]
 rfl
theorem run_end {r:Nat}{a Y:Int}{q:List Int}:((List.replicate r a++Y::q).map D.int)[r]? = some (.int Y):=by
 rw [List.getElem?_map,List.getElem?_append_right (by simp)]
 simp
theorem s_run (k:Nat){μ:Hm}{p:Nat}{r:Nat}{a Y:Int}{q:List Int}(ha:μ[p]? = some (.lst ((List.replicate (r+1) a++Y::q).map D.int)))(hr:r<8)(hY:a<Y)(Q:D×Hm->Prop)(H:Q (.int ((r+1:Nat):Int),μ)):W (f (k+1) "run_of_least" [.loc p] μ) Q:=by
 rw [ev_p_run_of_least,W_fin]
 simp only [w_mSeq,w_mSet,w_mC,List.set_cons_zero,List.set_cons_succ]
 refine w_mWhile (fun m ρ μ'=>μ=μ'/\∃ j:Nat,j<=r/\m=r - j/\ρ=[some (.loc p),some (.int ((j+1:Nat):Int))]) r (by omega) ⟨rfl,0,Nat.zero_le _,rfl,rfl⟩ ?_
 rintro m ρ μ' ⟨rfl,j,hj,rfl,rfl⟩
 simp only [w_mTest,w_mOp,w_mVar0,w_mVarS,w_mC]
 by_cases h:j=r
 ·subst h
  refine (w_itL ha (at_nat run_end)).mpr ?_
  refine (w_itL ha (at_nat (i:=0) (run_at (Y:=Y) (Nat.zero_le _)))).mpr ?_
  rw [w_eqI]
  have:(Y == a)=false:=by rw [beq_eq_false_iff_ne];omega
  rw [this]
  simp only [Bool.false_eq_true,if_false,w_mRet,w_mVarS,w_mVar0]
  exact H
 ·refine (w_itL ha (at_nat (run_at (Y:=Y) (by omega)))).mpr ?_
  refine (w_itL ha (at_nat (i:=0) (run_at (Y:=Y) (Nat.zero_le _)))).mpr ?_
  rw [w_eqI,beq_self_eq_true]
  simp only [if_true,w_mSet,w_mOp,w_mVarS,w_mVar0,w_mC,w_addI,List.set_cons_zero,List.set_cons_succ]
  refine ⟨r - (j+1),by omega,?_⟩
  exact ⟨trivial,j+1,by omega,rfl,rfl⟩
theorem cut_mid (xs:List D){i:Nat}(h:i+1<=xs.length):cutD xs (some (i:Int)) (some (-1))=(xs.drop i).dropLast:=by
 unfold cutD
 have e1:HT.sIx xs.length 0 (some (i:Int))=i:=by
  rw [HT.sIx_nat];omega
 have e2:HT.sIx xs.length xs.length (some (-1))=xs.length - 1:=by
  show (if (-1:Int)<0 then (-1+(xs.length:Int)).toNat else min (-1:Int).toNat xs.length)=_
  rw [if_pos (by decide)];omega
 rw [e1,e2,List.dropLast_eq_take,List.length_drop]
 congr 1
 omega
theorem s_ways:∀ (t k:Nat){μ:Hm}{p:Nat}{gs:List Int}(ha:μ[p]? = some (.lst (gs.map D.int)))(hG:GoodG gs)(hl:gs.length<=2 * t)(Q:D×Hm->Prop)(H:∀ μ',μ <+: μ'->Q (.int (cntF gs:Nat),μ')),W (f (k+t+1) "ways_to_fold" [.loc p] μ) Q
 | 0,k,μ,p,gs,ha,hG,hl,Q,H=>by have:=hG.rgl;omega
 | t+1,k,μ,p,gs,ha,hG,hl,Q,H=>by
  have hrg:=hG.rgl
  have he:=ev_of hG
  obtain ⟨hm,hle⟩:=minAt_is (is:=gs) (by omega)
  obtain ⟨hM,hge⟩:=maxAt_is (is:=gs) (by omega)
  rw [show k+(t+1)+1=(k+t+1)+1 by omega,ev_p_ways_to_fold,W_fin]
  simp only [w_mSeq,w_mIfS,w_mTest,w_mOp,w_mCall,w_mCons,w_mNil,w_mVar0]
  refine (w_minL ha (by omega)).mpr ?_
  refine (w_maxL ha (by omega)).mpr ?_
  rw [w_eqI]
  by_cases hc:minAt gs=maxAt gs
  ·rw [hc,beq_self_eq_true]
   have e:gs=List.replicate gs.length (maxAt gs):=List.eq_replicate_of_mem fun x hx=>by
    have h1:=hle x hx
    have h2:=hge x hx
    omega
   simp only [if_true,w_mRet,w_mOp,w_mC,w_mCall,w_mCons,w_mNil,w_mVar0]
   refine (w_lenL ha).mpr ?_
   rw [List.length_map]
   refine (w_fdivI (by decide) (by decide)).mpr ?_
   refine w_subI.mpr ?_
   refine (w_lenL ha).mpr ?_
   rw [List.length_map,show ((gs.length:Nat):Int) / 2 - 1=((gs.length / 2 - 1:Nat):Int) by omega]
   refine s_choose (k+t) (by omega) (by omega) _ ?_
   refine w_mul2.mpr ?_
   have h1:=cntF_alike hG.len (c:=maxAt gs) (by have:=hG.pos _ hM;omega)
   rw [<- e] at h1
   rw [<- h1]
   exact H μ (List.prefix_refl _)
  ·have hcb:(minAt gs == maxAt gs)=false:=by rw [beq_eq_false_iff_ne];exact hc
   rw [hcb]
   simp only [Bool.false_eq_true,if_false,w_mNext,w_mSet,w_mCall,w_mCons,w_mNil,w_mVar0]
   refine s_least_ahead (k+t) ha (by omega) ⟨_,hM,by have:=hle _ hM;omega⟩ _ fun j b μ1 hj h1 h2 p1 g1=>?_
   have R:Rot gs (gs.drop j++gs.take j):=⟨gs.take j,gs.drop j,by simp,rfl⟩
   obtain ⟨r,Y,rest,X,e1,hY,hX⟩:=ahead_dec he hG.alt hle hj h1 h2
   have hpos':∀ g∈gs.drop j++gs.take j,1<=g:=fun x hx=>hG.pos x (by
    rcases List.mem_append.mp hx with h|h
    ·exact List.mem_of_mem_drop h
    ·exact List.mem_of_mem_take h)
   have hlen:=R.len
   rw [e1] at R hpos' hlen g1
   have he':=R.ev he
   have hA':=altSum_Rot R he hG.alt
   have hr8:r<7:=by have:=he'.2.2;simp at this;omega
   have hl2:(List.replicate (r+1) (minAt gs)++Y::rest++[X]).length=r+rest.length+3:=by simp;omega
   generalize minAt gs=a at hX hY R hpos' g1 he' hA' hlen hl2
   have e0:List.replicate (r+1) a++Y::rest++[X]=List.replicate (r+1) a++Y::(rest++[X]):=by simp
   simp only [List.set_cons_zero,List.set_cons_succ,w_mVar0,w_mVarS]
   refine s_run (k+t) (r:=r) (a:=a) (Y:=Y) (q:=rest++[X]) (by rw [<- e0];exact g1) (by omega) hY _ ?_
   simp only [List.set_cons_zero,List.set_cons_succ,w_mOp,w_mVar0,w_mVarS,w_mC,w_addI]
   refine (w_fdivI (by decide) (by decide)).mpr ?_
   rw [show ((r+1:Nat):Int)+1=((r+1+1:Nat):Int) by omega,show ((r+1+1:Nat):Int) / 2=(((r+1+1) / 2:Nat):Int) by omega]
   refine s_choose (k+t) (by omega) (by omega) _ ?_
   simp only [List.set_cons_zero,List.set_cons_succ,w_mVar0,w_mVarS,w_mod2,w_eqI]
   have hcp:0<chZ ((r+1+1:Nat):Int) ((r+1+1) / 2)/\chZ ((r+1+1:Nat):Int) ((r+1+1) / 2)<1000:=by
    have:∀ r:Nat,r<7->0<chZ ((r+1+1:Nat):Int) ((r+1+1) / 2)/\chZ ((r+1+1:Nat):Int) ((r+1+1) / 2)<1000:=by decide +kernel
    exact this r hr8
   by_cases hev:(r+1) % 2=0
   ·obtain ⟨w1,w2,w3⟩:=ways_even hX hY hev he' hA'
    have:(((r+1:Nat):Int) % 2 == 0)=true:=by rw [beq_iff_eq];omega
    rw [this]
    simp only [if_true,w_mRet,w_mOp,w_mVar0,w_mVarS,w_mCall,w_mCons,w_mNil]
    refine w_sliceL ?_
    simp only [w_mVar0,w_mVarS,w_mPart,w_mNoPart]
    refine ⟨b,rfl,_,g1,?_⟩
    rw [cut_from _ (by rw [List.length_map,hl2];omega),Int.toNat_natCast,<- List.map_drop,e0,List.drop_left' (by simp)]
    refine s_ways t k (gs:=Y::rest++[X]) (by rw [get_last];rfl) (good_of w3 (fun g hg=>hpos' g (by rw [e0];exact List.mem_append.mpr (.inr hg))) w2) (by rw [hl2] at hlen;simp;omega) _ fun μ2 p2=>?_
    refine (w_mulI (.inl ⟨by omega,by omega⟩)).mpr ?_
    rw [<- w1,<- cntF_Rot R he]
    exact H _ ((p1.trans (pre_snoc _ _)).trans p2)
   ·obtain ⟨w1,w2,w3⟩:=ways_odd hX hY (by omega) he' hA'
    have:(((r+1:Nat):Int) % 2 == 0)=false:=by rw [beq_eq_false_iff_ne];omega
    rw [this]
    simp only [Bool.false_eq_true,if_false,w_mNext,w_mSet,w_mOp,w_mVar0,w_mVarS,w_mNeg,w_mC]
    have hX':((List.replicate (r+1) a++Y::rest++[X]).map D.int)[r+rest.length+2]? = some (.int X):=by
     rw [List.getElem?_map,List.getElem?_append_right (by simp;omega)]
     have:r+rest.length+2 - (List.replicate (r+1) a++Y::rest).length=0:=by simp;omega
     rw [this]
     rfl
    have hXl:atI ((List.replicate (r+1) a++Y::rest++[X]).map D.int) (-1)=some (.int X):=by
     unfold atI
     have:ixN ((List.replicate (r+1) a++Y::rest++[X]).map D.int).length (-1)=some (r+rest.length+2):=by
      rw [List.length_map,hl2]
      unfold ixN
      rw [if_neg (by decide),if_pos (by omega)]
      congr 1
      omega
     rw [this,Option.bind_some,hX']
    refine (w_itL g1 hXl).mpr ?_
    refine (w_itL g1 (at_nat (by rw [e0];exact run_end))).mpr ?_
    refine w_addI.mpr ?_
    refine (w_itL g1 (at_nat (i:=0) (by rw [e0];exact run_at (Y:=Y) (Nat.zero_le _)))).mpr ?_
    refine w_subI.mpr ?_
    simp only [List.set_cons_zero,List.set_cons_succ,w_mRet,w_mOp,w_mVar0,w_mVarS,w_mCall,w_mCons,w_mNil]
    refine w_sliceL ?_
    simp only [w_mOp,w_mVar0,w_mVarS,w_mPart,w_mC,w_addI,w_mNeg]
    refine ⟨b,rfl,_,g1,?_⟩
    rw [show ((r+1:Nat):Int)+1=((r+1+1:Nat):Int) by omega,cut_mid _ (by rw [List.length_map,hl2];omega),<- List.map_drop,<- List.map_dropLast]
    have e3:((List.replicate (r+1) a++Y::rest++[X]).drop (r+1+1)).dropLast=rest:=by
     have:List.replicate (r+1) a++Y::rest++[X]=(List.replicate (r+1) a++[Y])++(rest++[X]):=by simp
     rw [this,List.drop_left' (by simp),List.dropLast_concat]
    rw [e3]
    simp only [w_mLst,w_mCons,w_mNil,w_mVar0,w_mVarS]
    refine ⟨len1,?_⟩
    refine (w_addL (pre_get (pre_snoc _ _) (get_last _ _)) (get_last _ _) (by rw [List.length_map,sizeLine_eq];rw [hl2] at hlen;simp;omega)).mpr ?_
    refine s_ways t k (gs:=rest++[X+Y - a]) (by rw [get_last,List.map_append];rfl) (good_of w3 (fun g hg=>?_) w2) (by rw [hl2] at hlen;simp;omega) _ fun μ2 p2=>?_
    ·rcases List.mem_append.mp hg with hg|hg
     ·exact hpos' g (by simp [hg])
     ·have h4:=hpos' X (by simp)
      rw [List.mem_singleton.mp hg]
      omega
    ·refine (w_mulI (.inl ⟨by omega,by omega⟩)).mpr ?_
     rw [<- w1,<- cntF_Rot R he]
     exact H _ ((p1.trans (((pre_snoc _ _).trans (pre_snoc _ _)).trans (pre_snoc _ _))).trans p2)
theorem s_how_many (k:Nat){μ:Hm}{p:Nat}{gs:List Int}(ha:μ[p]? = some (.lst (gs.map D.int)))(hG:GoodG gs)(Q:D×Hm->Prop)(H:∀ μ',μ <+: μ'->Q (.int (cntF gs:Nat),μ')):W (f (k+6) "how_many" [.loc p] μ) Q:=by
 have hrg:=hG.rgl
 rw [ev_p_how_many,W_fin]
 simp only [w_mSeq,w_mDrop,w_mCall,w_mCons,w_mNil,w_mVar0]
 refine s_check_round (k+2) p gs hG _ _ ha fun μ1 p1=>?_
 simp only [w_mRet,w_mCall,w_mCons,w_mNil,w_mVar0]
 exact s_ways 4 k (pre_get p1 ha) hG (by omega) _ fun μ2 p2=>H μ2 (p1.trans p2)
theorem ltS_cons (b:Bool)(x y:List Bool):ltS (mStr (b::x)) (mStr (b::y))=ltS (mStr x) (mStr y):=by
 unfold ltS
 rw [decide_eq_decide]
 show ((b::x).map cpv).toArray.toList<((b::y).map cpv).toArray.toList↔(x.map cpv).toArray.toList<(y.map cpv).toArray.toList
 simp only [List.toList_toArray,List.map_cons,List.cons_lt_cons_iff]
 constructor
 ·rintro (h|h)
  ·exact absurd h (Nat.lt_irrefl _)
  ·exact h.2
 ·exact fun h=>.inr ⟨trivial,h⟩
theorem ltS_two (x y:List Bool):ltS (mStr (false::x)) (mStr (true::y))=true:=by
 unfold ltS
 rw [decide_eq_true_eq]
 show ((false::x).map cpv).toArray.toList<((true::y).map cpv).toArray.toList
 simp only [List.toList_toArray,List.map_cons,List.cons_lt_cons_iff]
 exact .inl (by decide)
theorem rowsH_up:∀ n:Nat,(rowsH n).Pairwise fun a b=>ltS (mStr a) (mStr b)=true
 | 0=>by simp [rowsH]
 | n+1=>by
  rw [rowsH,List.pairwise_append]
  refine ⟨?_,?_,?_⟩
  ·rw [List.pairwise_map]
   exact (rowsH_up n).imp fun h=>by rw [ltS_cons];exact h
  ·rw [List.pairwise_map]
   exact (rowsH_up n).imp fun h=>by rw [ltS_cons];exact h
  ·intro a ha b hb
   obtain ⟨x,_,rfl⟩:=List.mem_map.mp ha
   obtain ⟨y,_,rfl⟩:=List.mem_map.mp hb
   exact ltS_two x y
theorem eqs_strs (n:Nat)(μ:Hm):∀ ps:List Str,eqs (eqD (n+2) μ) (ps.map D.str) (ps.map D.str)=some true
 | []=>rfl
 | p::ps=>by
  rw [List.map_cons]
  show (eqD (n+2) μ (.str p) (.str p)).bind (fun b=>(eqs (eqD (n+2) μ) (ps.map D.str) (ps.map D.str)).map fun c=>b&&c)=_
  rw [eqs_strs n μ ps]
  have:eqD (n+2) μ (.str p) (.str p)=some (p == p):=rfl
  rw [this,beq_self_eq_true]
  rfl
theorem w_eqLS {μ:Hm}{a b:Nat}{ps:List Str}{Q:D×Hm->Prop}(ha:μ[a]? = some (.lst (ps.map D.str)))(hb:μ[b]? = some (.lst (ps.map D.str))):W (eqM false (.loc a) (.loc b) μ) Q↔Q (.bl true,μ):=by
 have h1:kindD μ (.loc a)=some (.lst (ps.map D.str)):=by simp only [kindD,ha]
 have h2:kindD μ (.loc b)=some (.lst (ps.map D.str)):=by simp only [kindD,hb]
 have h3:eqD 8 μ (.loc a) (.loc b)=some true:=by
  show (kindD μ (.loc a)).bind (fun x=>(kindD μ (.loc b)).bind fun y=>eqKd (eqD 7 μ) x y)=_
  rw [h1,h2]
  exact eqs_strs 5 μ ps
 have e:eqM false (.loc a) (.loc b) μ=some (.bl true,μ):=by
  show (eqD 8 μ (.loc a) (.loc b)).map _=_
  rw [h3]
  rfl
 rw [e]
 exact W_some
theorem GoodG.Rot {gs gs':List Int}(hG:GoodG gs)(R:Rot gs gs'):GoodG gs':=by
 refine good_of (R.ev (ev_of hG)) (fun g hg=>?_) (altSum_Rot R (ev_of hG) hG.alt)
 obtain ⟨u,v,rfl,rfl⟩:=R
 exact hG.pos g (by rcases List.mem_append.mp hg with h|h<;>simp [h])
theorem GoodG.alike {n:Nat}(hn:n=2\/n=4\/n=6\/n=8){g:Int}(hg:1<=g):GoodG (List.replicate n g):=by
 refine ⟨by rw [List.length_replicate];exact hn,fun x hx=>by rw [(List.mem_replicate.mp hx).2];exact hg,?_⟩
 rcases hn with rfl|rfl|rfl|rfl<;>simp [List.replicate,altSum]<;>omega
noncomputable def rowsE:Nat->List (List Bool)
 | 0=>[[]]
 | n+1=>(rowsE n).map (·++[false])++(rowsE n).map (·++[true])
theorem rowsE_len:∀ n:Nat,(rowsE n).length=2 ^ n
 | 0=>rfl
 | n+1=>by
  rw [rowsE,List.length_append,List.length_map,List.length_map,rowsE_len n,Nat.pow_succ]
  omega
theorem rowsE_small {n:Nat}(h:n<=8):(rowsE n).length<=256:=by
 rw [rowsE_len]
 exact Nat.pow_le_pow_right (by decide) h
theorem mem_rowsE:∀ {n:Nat}{bs:List Bool},bs∈rowsE n->bs.length=n
 | 0,bs,h=>by simp [rowsE] at h;simp [h]
 | n+1,bs,h=>by
  simp only [rowsE,List.mem_append,List.mem_map] at h
  rcases h with ⟨r,h,rfl⟩|⟨r,h,rfl⟩<;>simp [mem_rowsE h]
theorem rowsE_perm:∀ n∈[2,4,6,8],(rowsH n).isPerm (rowsE n)=true:=by decide +kernel
theorem rowsE_des:∀ n∈[2,4,6,8],desS ((rowsE n).map mStr)=false:=by decide +kernel
noncomputable def sufS (p:Str):D->D
 | .str x=>.str (x++p)
 | d=>d
theorem sufS_RS (b:Bool)(bs:List Bool):sufS (sgn b) (RS bs)=RS (bs++[b]):=by
 show D.str (mStr bs++sgn b)=D.str (mStr (bs++[b]))
 rw [sgn_is,mStr_snoc]
theorem suf_rows (b:Bool)(l:List (List Bool)):((l.map RS).filter (fun _=>true)).map (sufS (sgn b))=(l.map (·++[b])).map RS:=by
 rw [filter_true,List.map_map,List.map_map]
 exact List.map_congr_left fun bs _=>sufS_RS b bs
theorem w_suf {b:Bool}{c:Str}(hc:c=sgn b){n:Nat}(hn:n<=8){ρ:Rho}{a:Nat}{μ:Hm}{m v:ME}(hm:W (m ρ μ) fun p=>p=(.loc a,μ))(hv:∀ d μ' R,R (d,μ')->W (v (ρ++[some d]) μ') R)(ha:μ[a]? = some (.lst ((rowsE n).map RS))){Q:D×Hm->Prop}
  (H:∀ μ',μ <+: μ'->μ'[μ.length]? = some (.lst (((rowsE n).map (·++[b])).map RS))->Q (.loc μ.length,μ')):W (mCompI (iSeqD m) mTrue (mOp addD v (mC (.str c))) ρ μ) Q:=by
 subst hc
 have hr:=rowsE_small hn
 refine w_comp (xs:=(rowsE n).map RS) (p:=fun _=>true) (v:=sufS (sgn b)) ?_
 rw [w_iSeq]
 refine W_mono hm fun p hp=>?_
 subst hp
 refine (w_seqL ha).mpr ?_
 refine ⟨src_loc ha,rfl,by rw [sizeLine_eq,List.length_map];omega,?_,?_,?_⟩
 ·intro d μ' _ _
  exact w_mTrue.mpr ⟨rfl,List.prefix_refl _⟩
 ·intro d μ' hd _ hp
  obtain ⟨bs,hbs,rfl⟩:=List.mem_map.mp hd
  have hl:=mem_rowsE hbs
  rw [w_mOp]
  refine hv _ _ _ ?_
  rw [w_mC]
  refine (w_addS (by rw [mStr_len,sizeLine_eq,sgn_is];show bs.length+1<=_;omega)).mpr ⟨?_,List.prefix_refl _⟩
  rfl
 ·intro μ' hp hg
  rw [suf_rows] at hg
  exact H μ' hp hg
theorem s_law_rows (k:Nat){n:Nat}(hn:n=2\/n=4\/n=6\/n=8){μ:Hm}(Q:D×Hm->Prop)(H:∀ a μ',μ <+: μ'->μ.length<=a->μ'[a]? = some (.lst ((rowsH n).map RS))->Q (.loc a,μ')):W (f (k+1) "_law_rows" [.int (n:Int)] μ) Q:=by
 rw [ev_w_rows,W_fin]
 simp only [w_mSeq,w_mSet,w_mLst,w_mCons,w_mNil,w_mC]
 refine ⟨len1,?_⟩
 simp only [List.set_cons_zero,List.set_cons_succ,w_mForI,w_iRng1 (j:=0),w_mCons,w_mNil,w_mVar0]
 refine ⟨by omega,?_⟩
 rw [Int.toNat_natCast]
 refine w_forR (fun i ρ μ'=>∃ a o,μ <+: μ'/\μ'[a]? = some (.lst ((rowsE i).map RS))/\ρ=[some (.int (n:Int)),some (.loc a),o]) ⟨_,_,pre_snoc _ _,get_last _ _,rfl⟩ ?_ ?_
 ·rintro i ρ μ' hi ⟨a,o,hp,ha,rfl⟩
  refine ⟨_,rfl,?_⟩
  have hr:=rowsE_small (n:=i) (by omega)
  simp only [List.set_cons_zero,List.set_cons_succ,w_mSet,w_mOp]
  refine w_suf (b:=false) (n:=i) rfl (by omega) ?_ ?_ ha fun μ1 p1 g1=>?_
  ·simp only [w_mVarS,w_mVar0]
  ·intro d μ'' R h
   simp only [List.cons_append,List.nil_append,w_mVarS,w_mVar0]
   exact h
  ·refine w_suf (b:=true) (n:=i) rfl (by omega) ?_ ?_ (pre_get p1 ha) fun μ2 p2 g2=>?_
   ·simp only [w_mVarS,w_mVar0]
   ·intro d μ'' R h
    simp only [List.cons_append,List.nil_append,w_mVarS,w_mVar0]
    exact h
   ·refine (w_addL (pre_get p2 g1) g2 (by simp only [List.length_map];rw [sizeLine_eq];omega)).mpr ?_
    refine ⟨_,_,((hp.trans p1).trans p2).trans (pre_snoc _ _),?_,rfl⟩
    rw [get_last,rowsE,List.map_append]
 ·rintro ρ μ' ⟨a,o,hp,ha,rfl⟩
  simp only [w_mRet,w_mCall,w_mCons,w_mNil,w_mVarS,w_mVar0]
  have hm:n∈[2,4,6,8]:=by simp;exact hn
  have e1:(rowsE n).map RS=((rowsE n).map mStr).map D.str:=by rw [List.map_map];rfl
  have e2:(rowsH n).map RS=((rowsH n).map mStr).map D.str:=by rw [List.map_map];rfl
  rw [e1] at ha
  refine (w_sortTx (ts:=(rowsH n).map mStr) ha ?_ ?_ ?_ (rowsE_des n hm)).mpr ?_
  ·rw [List.length_map,rowsE_len]
   rcases hn with rfl|rfl|rfl|rfl<;>decide
  ·exact (List.isPerm_iff.mp (rowsE_perm n hm)).map _
  ·rw [List.pairwise_map]
   exact rowsH_up n
  ·refine H _ _ (hp.trans (pre_snoc _ _)) (pre_len hp) ?_
   rw [get_last,e2]
theorem w_neLS {μ:Hm}{a b:Nat}{ps:List Str}{Q:D×Hm->Prop}(ha:μ[a]? = some (.lst (ps.map D.str)))(hb:μ[b]? = some (.lst (ps.map D.str))):W (eqM true (.loc a) (.loc b) μ) Q↔Q (.bl false,μ):=by
 have h1:kindD μ (.loc a)=some (.lst (ps.map D.str)):=by simp only [kindD,ha]
 have h2:kindD μ (.loc b)=some (.lst (ps.map D.str)):=by simp only [kindD,hb]
 have h3:eqD 8 μ (.loc a) (.loc b)=some true:=by
  show (kindD μ (.loc a)).bind (fun x=>(kindD μ (.loc b)).bind fun y=>eqKd (eqD 7 μ) x y)=_
  rw [h1,h2]
  exact eqs_strs 5 μ ps
 have e:eqM true (.loc a) (.loc b) μ=some (.bl false,μ):=by
  show (eqD 8 μ (.loc a) (.loc b)).map _=_
  rw [h3]
  rfl
 rw [e]
 exact W_some
theorem s_int37 (k:Nat){i:Int}{μ:Hm}{Q:D×Hm->Prop}:W (f (k+1) "_law_int" [.int i] μ) Q↔Q (.bl true,μ):=by
 rw [ev_w_int,W_fin]
 simp only [w_mRet,w_mAndV,w_mCall,w_mCons,w_mNil,w_mVar0,w_mC,w_instII,if_true,w_mOp,w_isnotI]
theorem law_W (k:Nat)(ns:List Int)(hb:∀ m∈ns,Builtin.Int.intBits m<=2 ^ 20)(μ:Hm):W (f (k+7) "law" [.rol (ns.map D.int)] μ) fun r=>r.1=.bl true:=by
 rw [ev_p_law,W_fin]
 simp only [w_mSeq,w_mSet,w_mCall,w_mCons,w_mNil,w_mVar0,w_mC]
 refine s_gaps _ ns hb 0 (by decide) _ _ fun a0 μ0 gs p0 g0 G l0=>?_
 have hl:=G.len
 have hrg:=G.rgl
 have he:=ev_of G
 simp only [List.set_cons_zero,List.set_cons_succ,w_mVar0,w_mVarS]
 first
 | refine (w_list g0 (by rw [List.length_map,sizeLine_eq];omega)).mpr ?_
 | refine (w_listL g0).mpr ?_
 have q1:=pre_snoc μ0 (C.lst (gs.map D.int))
 have h1:=get_last μ0 (C.lst (gs.map D.int))
 have g1:=pre_get q1 g0
 generalize μ0.length=a1 at h1 ⊢
 generalize μ0++[C.lst (gs.map D.int)]=μ1 at q1 h1 g1 ⊢
 simp only [List.set_cons_zero,List.set_cons_succ]
  -- the rows that are due
 refine w_comp (xs:=(rowsH gs.length).map RS) (p:=fun d=>okB gs (unB d)) (v:=fun d=>d) ?_
 simp only [w_iSeq,w_mCall,w_mCons,w_mNil,w_mVar0,w_mVarS]
 refine (w_lenL g1).mpr ?_
 rw [List.length_map]
 refine s_law_rows _ hl _ fun c μ2 p2 l2 g2=>?_
 refine (w_seqL g2).mpr ?_
 have hr:=rowsH_small (n:=gs.length) (by omega)
 refine ⟨src_loc g2,rfl,by rw [sizeLine_eq,List.length_map];omega,fun d μ' hd hp=>?_,fun d μ' hd _ hp=>?_,fun μ3 p3 g3=>?_⟩
 ·obtain ⟨bs,hbs,rfl⟩:=List.mem_map.mp hd
  have hbl:=mem_rowsH.mp hbs
  simp only [List.cons_append,List.nil_append,w_mTru,w_mCall,w_mCons,w_mNil,w_mVar0,w_mVarS,w_mC]
  refine s_folds _ (pre_get hp (pre_get p2 g1)) G hbl _ fun b μ4 p4 hF=>?_
  rw [w_truB]
  refine ⟨?_,p4⟩
  show b=okB gs (unB (RS bs))
  rw [unB_RS,Bool.eq_iff_iff,hF,okB_iff he hbl,wds_zip hbl]
 ·simp only [List.cons_append,List.nil_append,w_mVar0,w_mVarS]
  exact ⟨trivial,List.prefix_refl _⟩
 ·have e3:(((rowsH gs.length).map RS).filter fun d=>okB gs (unB d)).map (fun d=>d)=((rowsF gs).map mStr).map D.str:=by
   unfold rowsF
   rw [List.filter_map,List.map_map,List.map_map]
   have:((fun d=>okB gs (unB d)) ∘ RS)=okB gs:=by funext bs;show okB gs (unB (RS bs))=_;rw [unB_RS]
   rw [this]
   rfl
  rw [e3] at g3
  try dsimp only
  have ld:μ2.length<μ3.length:=(List.getElem?_eq_some_iff.mp g3).1
  generalize μ2.length=c3 at g3 ld ⊢
  have q3:=p2.trans p3
  have h3:=pre_get q3 h1
  have g03:=pre_get q3 g1
  try simp only [List.set_cons_zero,List.set_cons_succ,w_mCall,w_mCons,w_mNil,w_mVar0,w_mVarS]
  refine s_all_marksF _ h3 G _ fun b μ4 p4 l4 g4=>?_
  have e5:(rowsF gs).map RS=((rowsF gs).map mStr).map D.str:=by rw [List.map_map];rfl
  rw [e5] at g4
  have d4:=pre_get p4 g3
  have h4:=pre_get p4 h3
  have g04:=pre_get p4 g03
  simp only [List.set_cons_zero,List.set_cons_succ,w_mIfS,w_mOrT,w_mNotT,w_mTru,w_mTest,w_mOp,w_mCall,w_mCons,w_mNil,w_mVar0,w_mVarS,w_mC]
  refine (w_instLL g4).mpr ?_
  simp only [w_truB,Bool.not_true,Bool.false_eq_true,if_false,w_mTest,w_mOp,w_mVar0,w_mVarS]
  refine (w_neLS g4 d4).mpr ?_
  simp only [Bool.false_eq_true,if_false,w_mTest,w_mOp,w_mVar0,w_mVarS]
  refine (w_neLI h4 g04).mpr ?_
  simp only [beq_self_eq_true,Bool.not_true,Bool.false_eq_true,if_false,w_mNext,w_mCall,w_mCons,w_mNil,w_mVar0,w_mVarS]
  refine s_how_many k h4 G _ fun μ5 p5=>?_
  have h5:=pre_get p5 h4
  have g05:=pre_get p5 g04
  have d5:=pre_get p5 d4
  have b5:=pre_get p5 g4
  have hcl:(rowsF gs).length=cntF gs:=rfl
  obtain ⟨bd1,bd2⟩:=cntF_bd gs.length gs (Nat.le_refl _) he G.alt G.pos
  have hb3:bnd gs.length<=112:=by unfold bnd;split<;>(try split)<;>(try split)<;>omega
  simp only [List.set_cons_zero,List.set_cons_succ,w_mIfS,w_mOrT,w_mNotT,w_mTru,w_mTest,w_mOp,w_mCall,w_mCons,w_mNil,w_mVar0,w_mVarS,w_mC,s_int37 (k+5),w_truB,Bool.not_true,Bool.false_eq_true,if_false]
  refine (w_lenL d5).mpr ?_
  rw [List.length_map,List.length_map,hcl]
  simp only [w_neI,beq_self_eq_true,Bool.not_true,Bool.false_eq_true,if_false,w_mTest,w_mOp,w_mVar0,w_mVarS]
  refine (w_neLI h5 g05).mpr ?_
  simp only [beq_self_eq_true,Bool.not_true,Bool.false_eq_true,if_false,w_mNext,w_mDrop]
    -- the told list changed
  have nb1:b≠a1:=fun e=>by have:=(List.getElem?_eq_some_iff.mp h3).1;omega
  have nb3:b≠c3:=fun e=>by omega
  have hbl5:b<μ5.length:=(List.getElem?_eq_some_iff.mp b5).1
  refine w_mMeth ?_
  simp only [w_mVar0,w_mVarS]
  refine ⟨by simp only [isLst,b5],?_⟩
  simp only [w_mCons,w_mNil,w_mC]
  refine (w_append b5 (by rw [List.length_map,List.length_map,hcl,sizeLine_eq];omega)).mpr ?_
  simp only [w_mPut,w_mC,w_mVar0,w_mVarS]
  refine (w_putL (j:=0) (List.getElem?_set_self hbl5) (by
   unfold ixN
   rw [if_pos (by decide),if_pos (by simp)]
   rfl)).mpr ?_
  simp only [w_mRet,w_mOp,w_mCall,w_mCons,w_mNil,w_mVar0,w_mVarS]
  refine s_all_marksF _ (a:=a1) (gs:=gs) (by rw [List.getElem?_set_ne nb1,List.getElem?_set_ne nb1];exact h5) G _ fun b' μ6 p6 l6 g6=>?_
  rw [e5] at g6
  refine (w_eqLS g6 (pre_get p6 (by rw [List.getElem?_set_ne nb3,List.getElem?_set_ne nb3];exact d5))).mpr ?_
  rfl
theorem law_trueB:∀ ns:List Int,ns.length<=63->(∀ m∈ns,Builtin.Int.intBits m<=2 ^ 20)->∃ μ',fnM S ds 7 "law" [.rol (ns.map D.int)] []=some (.bl true,μ'):=fun ns hns hb=>by
 obtain ⟨⟨d,μ'⟩,h1,h2⟩:=law_W 0 ns hb []
 dsimp only at h2
 subst h2
 refine ⟨μ',?_⟩
 unfold f at h1
 exact h1
end Lw
namespace Lw
open PySem L2 L3
theorem dz (Q:PySem.Params):defsZ (Kx Q) ds:=by unfold defsZ;kernel_rfl
theorem cz (Q:PySem.Params):conZ (Kx Q) S.con=true:=by kernel_rfl
theorem nz (Q:PySem.Params):S.no.map (PySem.W.nsIn (Kx Q) mainGlobals)=S.no.map fun _=>some none:=by kernel_rfl
theorem all_mk {P:Program}{w:World}{Q:PySem.Params}
  {h:Heap}{mg:Str → Option Value}(X:(Kx Q).In h)(G:h.Ns mainGlobals mg):TxtOk P w (Kx Q) mg S ds ∧ ∃ f fd,Fun (Kx Q) "law" "law" (top 31) f fd ∧ mg "law" = some (.ref f) ∧ ∀ (s:Shared)(u:Value),BindsTo s fd ⟨[u],[]⟩ [("_law_script",u)]:=by
 refine ⟨⟨fns_of (by decide +kernel),defs_of fun p hp=>(defs_z X G (dz Q) p hp).1,con_of (con_z X G (cz Q)),fun x kvs e=>?_,no_of (no_z X G (nz Q))⟩,law_z X G (dz Q) (by kernel_rfl) (by kernel_rfl)⟩
 ·cases e
end Lw
open PySem PySem.W PyProof.Rows
set_option maxRecDepth 100000 in
set_option maxHeartbeats 0 in
theorem PySem.Challenge.cw_creasecourt_k37_all_rows_holds : PySem.Challenge.rw_creasecourt_k37_all_rows.Holds := by
 w_on
 refine holds_law (by decide +kernel) fun said=>?_
 refine holds_open (q:=Lw.Vw) (loose:=[]) (Xt:=fun s=>xlAt Lw.Vw [] s&&recOk (RowW.records (OpenRow.toRowW (OpenLaw.row PySem.Challenge.rw_creasecourt_k37_all_rows))) s) (XP:=XL Lw.Vw []) (Yf:=Hook.obs (kHook Lw.Kx Lw.As Lw.ks_eq)) (Ya:=Hook.val (kHook Lw.Kx Lw.As Lw.ks_eq)) (YP:=Hook.says (kHook Lw.Kx Lw.As Lw.ks_eq)) (N:=2454) Lw.run (Hook.of _) (Hook.keeps _) (fun s e=>xl_of s (Bool.and_eq_true_iff.mp e).1) XL.keeps (by rfl) (by rfl) (by rfl) (fun s e=>recFacts_of (Bool.and_eq_true_iff.mp e).2) (by rfl) (by first|assumption|decide +kernel) (by decide +kernel) ⟨rfl,rfl,rfl,rfl,rfl,by decide +kernel⟩ ?hw ?hc
 case hw=>w_witness2
 k_fill
 refine L3.walkM (l:=PySem.Challenge.rw_creasecourt_k37_all_rows) (S:=Lw.S) (ds:=Lw.ds) (k:=7) (st:=Lw.top 31) (x:="_law_script") rfl rfl ⟨rfl,by decide,by decide⟩ (fun w h Y=>PySem.W.kIn_of Y) (by kernel_rfl) (by kernel_rfl) ?F Lw.law_trueB
 case F=>
  intro w mg h KX G
  refine' Lw.all_mk (P:=PySem.Challenge.pw_creasecourt_k37_all_rows) (w:=w)  KX G
