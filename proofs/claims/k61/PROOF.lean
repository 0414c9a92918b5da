import PyProof.Rows.All
import Wide.All
import OpenK.AllK
import Wide.FinOn
import PyProof.EqAt
import PyProof.EqKinds
import PyProof.TupleCall
import Lean
import PyProof.DictWalks
import PyProof.DictIter
import PyProof.P3In
import KE.KEqSeq
import PyProof.ReprLen
import PyProof.ReprRoads
import PyProof.StrOps2
import KE.KRevSl
import PyProof.IsRules
import PyProof.StrLawsIdx
import PyProof.Rows.RegRepr
import PyProof.Rows.RegFStrParts
import PyProof.DictUpdate
import PyProof.AttrMissHeap
import PyProof.Walks
import KE.KDictOf
import PyProof.EnumIter
import PyProof.EnumFor
import PyProof.LayNew
import PyProof.EnumMake
import PyProof.Draws
import PyProof.WalksT
import PyProof.TupleIter
import PyProof.WalksMore
import KE.KRevIter
import KE.KEqDict
import PyProof.Rows.SetFrom
import PyProof.StrLawsTight
import PyProof.StrLawsChain
import PyProof.SumWalk
import PyProof.Rows.SortStr
import PyProof.Rows.SortWalk
import PyProof.TupleOfSeq
import KE.KDictSum
import KE.KSortTup
import PyProof.ListRange
import PyProof.ZipIter
import PyProof.Rows.ZipGen
import KE.KItemsList
import PyProof.ExcArgsOwn
import PyProof.InstStoreFacts
import PyProof.ExcBaseAll.ValueError
import PyProof.StationsW
import PyProof.RulesAs
import PyProof.RulesDel
import PyProof.NeKinds
import PyProof.ListMulAny
import KE.KMinBuiltin
import PyProof.Rows.CallKwBuiltin
import KE.KLam
import KE.KMinKey
import PyProof.WalkInts
import KE.KNestM
import PyProof.SeqI3
import PySem.Challenge.RW_halforder_k61_best_questions
local macro_rules | `(tactic| eq_refl) => `(tactic| with_unfolding_all exact Or.inl rfl)
local macro_rules | `(tactic| ac_rfl) => `(tactic| with_unfolding_all exact fun _ _ => rfl)
local macro_rules | `(tactic| ac_nf) => `(tactic| with_unfolding_all rfl)
noncomputable section
set_option linter.all false
set_option maxRecDepth 100000
set_option maxHeartbeats 4000000
set_option Elab.async false
set_option compiler.extract_closed false
namespace L2
open PySem PySem.Spec PyProof.Rows
abbrev Key:=Sum Int Str
def Pe:Key->Value->Bool
 | .inl k,v=>Value.isInt k v
 | .inr x,v=>Value.isStrOf x v
def keyH (w:World):Key->Int
 | .inl k=>hashInt k
 | .inr x=>hashStr w x
theorem Bc:∀ {k:Key} {v:Value},Pe k v=true->(∃ i t,k=Sum.inl i/\v=Value.int i t)\/(∃ x t,k=Sum.inr x/\v=Value.str x t)
 | .inl i,v,h=>by
   obtain⟨t,e⟩:=Value.isInt_shape (k:=i) (v:=v) h
   exact .inl ⟨i,t,rfl,e⟩
 | .inr x,v,h=>by
   obtain⟨t,e⟩:=Value.isStrOf_shape (x:=x) (v:=v) h
   exact .inr ⟨x,t,rfl,e⟩
theorem Ve (i:Int)(t:Tok):Pe (.inl i) (.int i t)=true:=by simp[Pe,Value.isInt]
theorem Th (x:Str)(t:Tok):Pe (.inr x) (.str x t)=true:=by simp[Pe,Value.isStrOf]
theorem ad2 (a b:Int):decide ((Sum.inl a:Key)=Sum.inl b)=(a==b):=by
 by_cases e:a=b
 . subst e;simp
 have h:¬ (Sum.inl a:Key)=Sum.inl b:=fun q=>e (Sum.inl.inj q)
 rw[decide_eq_false h]
 exact(beq_eq_false_iff_ne.mpr e).symm
theorem a95 (a b:Str):decide ((Sum.inr a:Key)=Sum.inr b)=decide (a=b):=by
 by_cases e:a=b
 . subst e;simp
 have h:¬ (Sum.inr a:Key)=Sum.inr b:=fun q=>e (Sum.inr.inj q)
 rw[decide_eq_false h,decide_eq_false e]
theorem ad4 (a:Int)(b:Str):decide ((Sum.inl a:Key)=Sum.inr b)=false:=decide_eq_false (fun q=>nomatch q)
theorem ae2 (a:Str)(b:Int):decide ((Sum.inr a:Key)=Sum.inl b)=false:=decide_eq_false (fun q=>nomatch q)
def Ap (prog:Program)(w:World):PySem.KeyKind prog w Key where
 is:=Pe
 hash:=keyH w
 inj:=fun v a b ha hb=>by
  rcases Bc ha with ⟨i,t,rfl,rfl⟩ | ⟨x,t,rfl,rfl⟩
  . rcases Bc hb with ⟨j,u,rfl,e⟩ | ⟨y,u,rfl,e⟩
    . injection e with e1 _;rw[e1]
    exact nomatch e
  rcases Bc hb with ⟨j,u,rfl,e⟩ | ⟨y,u,rfl,e⟩
  . exact nomatch e
  injection e with e1 _;rw[e1]
 byValue:=fun k v h=>by
  rcases Bc h with ⟨i,t,rfl,rfl⟩ | ⟨x,t,rfl,rfl⟩<;>rfl
 pyHash:=fun hv h=>by
  rcases Bc hv with ⟨i,t,rfl,rfl⟩ | ⟨x,t,rfl,rfl⟩
  . exact wpAny_pyHash_int h
  exact wpAny_pyHash_str h
 eqBool:=fun hu hv h=>by
  rcases Bc hu with ⟨i,t,rfl,rfl⟩ | ⟨x,t,rfl,rfl⟩
  . rcases Bc hv with ⟨j,u,rfl,rfl⟩ | ⟨y,u,rfl,rfl⟩
    . rw[ad2] at h;exact wpAny_eqBool_int h
    rw[ad4] at h;exact SeqAt.EqAt.int_str i t y u _ _ _ _ h
  rcases Bc hv with ⟨j,u,rfl,rfl⟩ | ⟨y,u,rfl,rfl⟩
  . rw[ae2] at h;exact SeqAt.EqAt.str_int x t j u _ _ _ _ h
  rw[a95] at h;exact wpAny_eqBool_str h
 «strs»:=fun k x t v h=>by
  rcases Bc h with ⟨i,u,rfl,e⟩ | ⟨y,u,rfl,e⟩
  . exact nomatch e
  injection e with e1 _
  subst e1
  cases v<;>rfl
theorem Nw (prog:Program)(w:World)(i:Int)(t:Tok):(Ap prog w).is (.inl i) (.int i t)=true:=Ve i t
theorem Ou (prog:Program)(w:World)(x:Str)(t:Tok):(Ap prog w).is (.inr x) (.str x t)=true:=Th x t
inductive V where
 | non | bl (b:Bool) | int (i:Int) | str (x:Str) | byt (b:Array UInt8) | flt (b:UInt64) | ref (a:Addr) | ty (n:String)
 deriving DecidableEq
def RelV:V->Value->Prop
 | .non,u=>u=Value.none
 | .bl b,u=>u=Value.bool b
 | .int i,u=>∃ t,u=Value.int i t
 | .str x,u=>∃ t,u=Value.str x t
 | .byt b,u=>∃ t,u=Value.bytes b t
 | .flt b,u=>∃ t,u=Value.float b t
 | .ref a,u=>u=Value.ref a
 | .ty n,u=>u=Value.type n
abbrev Vals:List V->List Value->Prop:=Paired RelV
theorem Vals.length {xs:List V} {us:List Value} (r:Vals xs us):xs.length=us.length:=Paired.length r
theorem Vals.get:∀ {xs:List V} {us:List Value} {i:Nat} {x:V},Vals xs us->xs[i]? = some x->∃ u,us[i]? = some u/\RelV x u
 | _,_,_,_,.nil,e=>by simp at e
 | _,_,0,_,.cons r _,e=>by simp at e;subst e;exact⟨_,rfl,r⟩
 | _,_,i+1,x,.cons _ t,e=>by
   obtain⟨u,h1,h2⟩:=Vals.get (i:=i) (x:=x) t (by simpa using e)
   exact⟨u,by simpa using h1,h2⟩
theorem Vals.append:∀ {xs ys:List V} {us ws:List Value},Vals xs us->Vals ys ws->Vals (xs++ys) (us++ws)
 | _,_,_,_,.nil,s=>s
 | _,_,_,_,.cons r t,s=>.cons r (Vals.append t s)
theorem Vals.take:∀ {xs:List V} {us:List Value} (n:Nat),Vals xs us->Vals (xs.take n) (us.take n)
 | _,_,0,_=>.nil
 | _,_,_+1,.nil=>.nil
 | _,_,n+1,.cons r t=>.cons r (Vals.take n t)
theorem Vals.drop:∀ {xs:List V} {us:List Value} (n:Nat),Vals xs us->Vals (xs.drop n) (us.drop n)
 | _,_,0,r=>r
 | _,_,_+1,.nil=>.nil
 | _,_,n+1,.cons _ t=>Vals.drop n t
def RelO:Option V->Option Value->Prop
 | some v,some u=>RelV v u
 | none,none=>True
 | _,_=>False
def KV {κ:Type}:List (κ×V)->List (κ×Value)->Prop:=Paired fun(p:κ×V) (q:κ×Value)=>p.1=q.1/\RelV p.2 q.2
def kV:Key->V
 | .inl i=>.int i
 | .inr x=>.str x
def IsTupN (h:Heap)(a:Addr)(items:Array Value):Prop:=∃ o,h.get? a=some o/\o.cls = .type "tuple" /\ (∃ n,o.data = .seq items n)/\o.dict=none
theorem IsTupN.tup {h:Heap}{a:Addr}{items:Array Value}(x:IsTupN h a items):IsTup h a items:=let ⟨o,h1,h2,⟨n,h3⟩,_⟩:=x;⟨o,h1,h2,n,h3⟩
theorem IsTupN.new (h:Heap)(its:Array Value):IsTupN (h.push { cls:=.type "tuple",data:=.seq its }) h.objs.size its:=⟨_,Heap.get?_push_size _ rfl,rfl,⟨_,rfl⟩,rfl⟩
inductive HO where
 | lst (xs:List V)
 | tup (xs:List V)
 | dK (kvs:List (Key×V)) | dT (kvs:List (List Key×V))
 | set (S:Int->Bool) (n:Nat)
 | ins (C dx:Addr) (fs:List (Str×V))
 | own (x:Addr)
 | xd (fs:List (Str×V))
 | met (f x:Addr)
 | rng (lo hi:Int)
 | frz (o:Obj) (u:HO)
 | tbl (ps:Array Value)
 | ext (φ:Heap->Prop)
abbrev Hp:=Addr->Option HO
def upd (H:Hp)(a:Addr)(o:HO):Hp:=fun b=>if b=a then some o else H b
theorem A9 {H:Hp}{a:Addr}{o:HO}:upd H a o a=some o:=by unfold upd;rw[if_pos rfl]
theorem Aq {H:Hp}{a b:Addr}{o:HO}(h:b≠a):upd H a o b=H b:=by unfold upd;rw[if_neg h]
theorem ne_of {H:Hp}{a b:Addr}{o u:HO}(h:H a=some o)(h':H b=some u)(d:o≠u):a≠b:=by
 intro e;subst e;rw[h] at h';exact d (Option.some.inj h')
theorem ne_of_none {H:Hp}{a b:Addr}{o:HO}(h:H a=some o)(h':H b=none):a≠b:=by
 intro e;subst e;rw[h] at h';cases h'
section
variable (P:Program)(w:World)
def ObjOk (H:Hp)(h:Heap)(a:Addr):HO->Prop
 | .lst xs=>xs.length<=sizeLine/\∃(its:List Value) (n:Nat),Vals xs its/\h.get? a=some { cls:=.type "list",data:=.seq its.toArray n }
 | .tup xs=>xs.length<=sizeLine/\∃ its:List Value,Vals xs its/\IsTupN h a its.toArray
 | .dK kvs=>kvs.length<=sizeLine/\(a==sysModules)=false/\∃ vs,KV kvs vs/\h.DictOf (Ap P w) a vs
 | .dT kvs=>kvs.length<=sizeLine/\(a==sysModules)=false/\∃ xs:List (List Key×Addr×Value),
   Paired (fun(p:List Key×V) (q:List Key×Addr×Value)=>p.1=q.1/\H q.2.1=some (.tup (p.1.map kV))/\RelV p.2 q.2.2) kvs xs /\
   ∃ o es ep,h.get? a=some o/\o.ExactDict/\o.data = .dict es ep/\es.toList=xs.map (entryOfKey (tupleKind (Ap P w)))/\(xs.map (·.1)).Nodup
 | .set S n=>h.SetOf (intKind P w) a S n
 | .ins C dx fs=>H dx=some (.own a)/\fs.length<=1000/\dx≠a/\h.get? a=some (PySem.W.instObj C dx) /\
   ∃ mA,h.Ns1 dx mA/\(∀ f,RelO (fs.lookup f) (mA f))/\PySem.Within mA (fs.map (·.1))
 | .own _=>∃ o,h.get? a=some o
 | .xd fs=>∃ mA,h.Ns1 a mA/\∀ f,RelO (fs.lookup f) (mA f)
 | .rng lo hi=>∃ t u v,h.get? a=some { cls:=.type "range",data:=.fields #[.int lo t,.int hi u,.int 1 v] }
 | .frz o u=>h.get? a=some o/\ObjOk H h a u
 | .tbl ps=>h.get? a=some { cls:=.none,data:=.fields ps }
 | .met f x=>h.get? a=some (PySem.W.methodObj (.ref f) (.ref x))
 | .ext φ=>φ h/\(∃ o,h.get? a=some o)/\∀ h1 h2:Heap,φ h1->(∀ o,h1.get? a=some o->h2.get? a=some o)->φ h2
def HOk (H:Hp)(h:Heap):Prop:=∀ a o,H a=some o->ObjOk P w H h a o
end
section
variable {P:Program}{w:World}{H H':Hp}{h h':Heap}{a:Addr}{o:HO}
theorem ObjOk.lt (x:ObjOk P w H h a o):a<h.objs.size:=by
 cases o with
 | lst xs=>obtain⟨_,_,_,_,e⟩:=x;exact Heap.lt_size e
 | tup xs=>obtain⟨_,_,_,p⟩:=x;exact p.tup.lt
 | dK kvs=>obtain⟨_,_,_,_,o,_,_,e,_⟩:=x;exact Heap.lt_size e
 | dT kvs=>obtain⟨_,_,_,_,o,_,_,e,_⟩:=x;exact Heap.lt_size e
 | set S n=>obtain⟨o,_,_,_,e,_⟩:=x;exact Heap.lt_size e
 | ins C dx fs=>obtain⟨_,_,_,e,_⟩:=x;exact Heap.lt_size e
 | own y=>obtain⟨_,e⟩:=x;exact Heap.lt_size e
 | xd fs=>obtain⟨_,⟨_,_,_,e,_⟩,_⟩:=x;exact Heap.lt_size e
 | rng lo hi=>obtain⟨_,_,_,e⟩:=x;exact Heap.lt_size e
 | frz ob u=>obtain⟨e,_⟩:=x;exact Heap.lt_size e
 | tbl ps=>exact Heap.lt_size (show h.get? a=some _ from x)
 | met f y=>exact Heap.lt_size (show h.get? a=some _ from x)
 | ext φ=>obtain⟨_,⟨_,e⟩,_⟩:=x;exact Heap.lt_size e
theorem Paired.mapP {α β:Type}{F G:α->β->Prop}:∀ {l₁:List α} {l₂:List β},Paired F l₁ l₂->(∀ a b,F a b->G a b)->Paired G l₁ l₂
 | _,_,.nil,_=>.nil
 | _,_,.cons r t,f=>.cons (f _ _ r) (Paired.mapP t f)
theorem ObjOk.stay (x:ObjOk P w H h a o)(k:∀ b u,(b=a\/H b=some (.own a))->h.get? b=some u->h'.get? b=some u)
  (ho:∀ b,H b=some (.own a)->H' b=some (.own a)) (ht:∀ b xs,H b=some (.tup xs)->H' b=some (.tup xs)):ObjOk P w H' h' a o:=by
 induction o with
 | lst xs=>obtain⟨z,its,n,r,e⟩:=x;exact⟨z,its,n,r,k _ _ (.inl rfl) e⟩
 | tup xs=>obtain⟨z,its,r,ob,e,c⟩:=x;exact⟨z,its,r,ob,k _ _ (.inl rfl) e,c⟩
 | dK kvs=>obtain⟨z,y,vs,r,ob,es,ep,e,c⟩:=x;exact⟨z,y,vs,r,ob,es,ep,k _ _ (.inl rfl) e,c⟩
 | dT kvs=>
   obtain⟨z,y,xs,r,ob,es,ep,e,c⟩:=x
   exact⟨z,y,xs,Paired.mapP r fun p q z=>⟨z.1,ht _ _ z.2.1,z.2.2⟩,ob,es,ep,k _ _ (.inl rfl) e,c⟩
 | set S n=>obtain⟨ob,es,ep,t,e,c⟩:=x;exact⟨ob,es,ep,t,k _ _ (.inl rfl) e,c⟩
 | ins C dx fs=>
   obtain⟨d,z,ne,e,mA,⟨od,es,ep,e2,c⟩,r⟩:=x
   exact⟨ho _ d,z,ne,k _ _ (.inl rfl) e,mA,⟨od,es,ep,k _ _ (.inr d) e2,c⟩,r⟩
 | own y=>obtain⟨ob,e⟩:=x;exact⟨ob,k _ _ (.inl rfl) e⟩
 | xd fs=>obtain⟨mA,⟨od,es,ep,e,c⟩,r⟩:=x;exact⟨mA,⟨od,es,ep,k _ _ (.inl rfl) e,c⟩,r⟩
 | rng lo hi=>obtain⟨t,u,v,e⟩:=x;exact⟨t,u,v,k _ _ (.inl rfl) e⟩
 | frz ob u ih=>obtain⟨e,q⟩:=x;exact⟨k _ _ (.inl rfl) e,ih q⟩
 | tbl ps=>
   have e:h.get? a=some { cls:=.none,data:=.fields ps }:=x
   show h'.get? a=some { cls:=.none,data:=.fields ps }
   exact k a _ (.inl rfl) e
 | met f y=>
   have e:h.get? a=some (PySem.W.methodObj (.ref f) (.ref y)):=x
   show h'.get? a=some (PySem.W.methodObj (.ref f) (.ref y))
   exact k a _ (.inl rfl) e
 | ext φ=>obtain⟨p,⟨o,e⟩,st⟩:=x;exact⟨st _ _ p fun o q=>k _ _ (.inl rfl) q,⟨o,k _ _ (.inl rfl) e⟩,st⟩
theorem HOk.lt (x:HOk P w H h)(e:H a=some o):a<h.objs.size:=(x a o e).lt
theorem HOk.fresh (x:HOk P w H h)(e:h.objs.size<=a):H a=none:=by
 cases q:H a with
 | none=>rfl
 | some u=>exact absurd (Nat.lt_of_lt_of_le (x.lt q) e) (Nat.lt_irrefl _)
theorem HOk.kept (x:HOk P w H h)(k:∀ b u,h.get? b=some u->h'.get? b=some u):HOk P w H h':=fun a o e=>
 (x a o e).stay (fun b u _ q=>k b u q) (fun _ q=>q) fun _ _ q=>q
theorem HOk.laid (x:HOk P w H h)(k:∀ b u,h.get? b=some u->h'.get? b=some u)(hp:h.objs.size<=a)(new:ObjOk P w (upd H a o) h' a o):HOk P w (upd H a o) h':=fun b u e=>by
 have hn:=x.fresh hp
 by_cases hb:b=a
 . subst hb;rw[A9] at e;cases e;exact new
 rw[Aq hb] at e
 exact(x b u e).stay (fun c v _ q=>k c v q) (fun c q=>by rw[Aq (ne_of_none q hn)];exact q) fun c xs q=>by rw[Aq (ne_of_none q hn)];exact q
end
def Rd (H:Hp)(a:Addr)(u:HO):Prop:=H a=some u\/∃ o,H a=some (.frz o u)
theorem Rd.ok {P:Program}{w:World}{H:Hp}{h:Heap}{a:Addr}{u:HO}(r:Rd H a u)(x:HOk P w H h):ObjOk P w H h a u:=by
 rcases r with r | ⟨o,r⟩
 . exact x a u r
 obtain⟨_,q⟩:=x a _ r
 exact q
def Mut:Option HO->Prop
 | some (.lst _)=>True
 | some (.dK _)=>True
 | some (.dT _)=>True
 | some (.set _ _)=>True
 | some (.ins _ _ _)=>True
 | some (.ext _)=>True
 | _=>False
section
variable {P:Program}{w:World}{H:Hp}{h h':Heap}{x e:Addr}{o':HO}
theorem HOk.write (ok:HOk P w H h)(mu:Mut (H x))(he:e=x\/H e=some (.own x))(k:∀ b u,b≠e->h.get? b=some u->h'.get? b=some u)(heo:∃ u,h'.get? e=some u)
  (new:ObjOk P w (upd H x o') h' x o'):HOk P w (upd H x o') h':=fun b u q=>by
 have nown:∀ c y,H c=some (.own y)->c≠x:=fun c y r z=>by subst z;rw[r] at mu;exact mu
 have ntup:∀ c xs,H c=some (.tup xs)->c≠x:=fun c xs r z=>by subst z;rw[r] at mu;exact mu
 by_cases hb:b=x
 . subst hb;rw[A9] at q;cases q;exact new
 rw[Aq hb] at q
 by_cases hbe:b=e
 . have q':H b=some (.own x):=by
    rcases he with z | z
    . exact absurd (hbe.trans z) hb
    rw[hbe];exact z
   rw[q] at q';cases q'
   obtain⟨v,hv⟩:=heo
   exact⟨v,by rw[hbe];exact hv⟩
 refine(ok b u q).stay (fun c v hc r=>k c v ?_ r) (fun c r=>by rw[Aq (nown c b r)];exact r) fun c xs r=>by rw[Aq (ntup c xs r)];exact r
 rcases hc with rfl | hc
 . exact hbe
 rintro rfl
 rcases he with z | z
 . exact nown c b hc z
 rw[hc] at z;cases z;exact hb rfl
end
structure Un (fs ex:List Addr)(H H':Hp)(h h':Heap):Prop where
 keep:∀ b o,h.get? b=some o->H b=none->b∉fs->b∉ex->h'.get? b=some o
 slot:∀ b o,h.get? b=some o->H b=none->b∈fs->b∉ex->∃ sl,h'.get? b=some { o with slots:=sl }
 free:∀ b o,h.get? b=some o->H b=none->b∉ex->H' b=none
 there:∀ b o,h.get? b=some o->b∉ex->∃ o',h'.get? b=some o'
 tups:∀ b xs,H b=some (.tup xs)->H' b=some (.tup xs)
 frzs:∀ b o u,H b=some (.frz o u)->H' b=some (.frz o u)
 tbls:∀ b ps,H b=some (.tbl ps)->∃ more,H' b=some (.tbl (ps++more))
section
variable {fs fs' ex ex':List Addr}{H H1 H2:Hp}{h h1 h2 h':Heap}{a x e:Addr}{o:HO}
theorem Un.any (u:Un fs ex H H1 h h1){b:Addr}{ob:Obj}(q:h.get? b=some ob)(n:H b=none)(hx:b∉ex):∃ sl,h1.get? b=some { ob with slots:=sl }:=by
 by_cases hb:b∈fs
 . exact u.slot b ob q n hb hx
 exact⟨ob.slots,u.keep b ob q n hb hx⟩
theorem Un.kept (k:∀ b u,h.get? b=some u->h'.get? b=some u):Un fs ex H H h h':=
 ⟨fun b ob q _ _ _=>k b ob q,fun b ob q _ _ _=>⟨ob.slots,k b ob q⟩,fun _ _ _ n _=>n,fun b ob q _=>⟨ob,k b ob q⟩,fun _ _ q=>q,fun _ _ _ q=>q,fun _ ps q=>⟨#[],by rw[q];simp⟩⟩
theorem Un.refl:Un fs ex H H h h:=Un.kept fun _ _ q=>q
theorem Un.laid (k:∀ b u,h.get? b=some u->h'.get? b=some u)(hp:h.objs.size<=a)(hn:H a=none):Un fs ex H (upd H a o) h h' where
 keep:=fun b u q _ _ _=>k b u q
 slot:=fun b u q _ _ _=>⟨u.slots,k b u q⟩
 free:=fun b u q n _=>by rw[Aq (Nat.ne_of_lt (Nat.lt_of_lt_of_le (Heap.lt_size q) hp))];exact n
 there:=fun b u q _=>⟨u,k b u q⟩
 tups:=fun b xs q=>by rw[Aq (ne_of_none q hn)];exact q
 frzs:=fun b u xs q=>by rw[Aq (ne_of_none q hn)];exact q
 tbls:=fun b ps q=>⟨#[],by rw[Aq (ne_of_none q hn),q];simp⟩
theorem Un.write (mu:Mut (H x))(he:e=x\/H e=some (.own x))(k:∀ b u,b≠e->h.get? b=some u->h'.get? b=some u)(heo:∃ u,h'.get? e=some u):Un fs ex H (upd H x o) h h':=by
 have hx:∀ b,H b=none->b≠x:=fun b n z=>by subst z;rw[n] at mu;exact mu
 have hb:∀ b,H b=none->b≠e:=fun b n z=>by
  subst z
  rcases he with r | r
  . exact hx b n r
  rw[n] at r;cases r
 have hm:∀ b u,H b=some u->¬ Mut (some u)->b≠x:=fun b u q nm z=>by subst z;rw[q] at mu;exact nm mu
 refine⟨fun b u q n _ _=>k b u (hb b n) q,fun b u q n _ _=>⟨u.slots,k b u (hb b n) q⟩,fun b u q n _=>by rw[Aq (hx b n)];exact n,fun b u q _=>?_,
  fun b xs q=>by rw[Aq (hm b _ q fun z=>z)];exact q,fun b u xs q=>by rw[Aq (hm b _ q fun z=>z)];exact q,fun b ps q=>⟨#[],by rw[Aq (hm b _ q fun z=>z),q];simp⟩⟩
 by_cases hbe:b=e
 . subst hbe;exact heo
 exact⟨u,k b u hbe q⟩
end
def trk (h:Heap)(H:Hp):List Addr:=(List.range h.objs.size).filter fun a=>(H a).isSome
def Wp (h:Heap)(H:Hp):Heap:=PySem.W.hideAll h (trk h H)
theorem Wg (h:Heap)(H:Hp):(Wp h H).objs.size=h.objs.size:=PySem.W.hideAll_size _ _
theorem Xj {h:Heap}{H:Hp}{b:Addr}{o:Obj}(e:h.get? b=some o)(n:H b=none):(Wp h H).get? b=some o:=
 PySem.W.hideAll_get _ e fun hm=>by
  have q:(H b).isSome=true:=(List.mem_filter.mp hm).2
  rw[n] at q;simp at q
theorem a43 {h:Heap}{H:Hp}{b:Addr}{o:Obj}(e:(Wp h H).get? b=some o):h.get? b=some o/\H b=none:=by
 have e':h.get? b=some o:=PySem.W.of_hideAll (trk h H) e
 refine⟨e',?_⟩
 cases q:H b with
 | none=>rfl
 | some x=>
   have hm:b∈trk h H:=List.mem_filter.mpr ⟨List.mem_range.mpr (Heap.lt_size e'),by simp[q]⟩
   have z:(Wp h H).get? b=none:=PySem.W.hideAll_none (trk h H) hm
   rw[z] at e;cases e
def Fm (g h:Heap)(L:Addr):List (Addr×Obj):=(List.range h.objs.size).filterMap fun a=>if a=L\/(g.get? a).isSome=true then none else(h.get? a).map fun o=>(a,o)
theorem Ow {g h:Heap}{L a:Addr}{o:Obj}(h1:a≠L)(h2:g.get? a=none)(h3:h.get? a=some o):(a,o)∈Fm g h L:=
 List.mem_filterMap.mpr ⟨a,List.mem_range.mpr (Heap.lt_size h3),by simp[h1,h2,h3]⟩
theorem Jy {g h:Heap}{L:Addr}{p:Addr×Obj}(hp:p∈Fm g h L):p.1≠L/\g.get? p.1=none/\h.get? p.1=some p.2:=by
 obtain⟨b,_,e⟩:=List.mem_filterMap.mp hp
 split at e
 . cases e
 rename_i hn
 cases q:h.get? b with
 | none=>rw[q] at e;simp at e
 | some u=>
   rw[q] at e
   simp only[Option.map_some,Option.some.injEq] at e
   subst e
   refine⟨fun z=>hn (.inl z),?_,q⟩
   show g.get? b=none
   cases r:g.get? b with
   | none=>rfl
   | some v=>exact(hn (.inr (by simp[r]))).elim
def rest (g h:Heap)(L d:Addr):List (Addr×Obj):=(Fm g h L).filter fun p=>decide (p.1≠d)
theorem X3 {g h:Heap}{L:Addr}:News g L h (Fm g h L):=fun p hp=>let ⟨a,b,c⟩:=Jy hp;⟨c,a,b⟩
structure Mod (K:PySem.W.Frag)(mg:Str->Option Value)(base:Heap):Prop where
 kin:K.In base
 glob:base.Ns mainGlobals mg
 blt:∃ mb,base.Ns builtinsNs mb/\∀ x:Str,x ≠ "__name__" -> mb x=bootBuiltins x
 nolimit:base.NoLimit
/-- the context: a def's body (or a comprehension's block) running. base: fixed through the whole law;s₀,H₀: the entry;outer: the frames whose slots others may change (a def's callers);stack: all frames that run;
  ex: iterators that were made ahead of the entry and are walked here (a comprehension's);fn: the names whose cells were made at the entry (a def: all;a comprehension's block: its own);calm: not within an except suite;pn: pins that every state bears;xe: what is wanted of an exception that leaves the code -/
structure Cx where
 prog:Program
 w:World
 K:PySem.W.Frag
 mg:Str->Option Value
 base:Heap
 A:Around
 N:List Str
 s₀:Shared
 H₀:Hp
 env:Env
 outer:List Env
 stack:List Env
 ex:List Addr
 fn:Str->Bool
 calm:Bool
 pn:List (Addr×Obj)
 xe:Value->Shared->Prop
def frs (l:List Env):List Addr:=l.filterMap (·.frame)
abbrev Cx.fs (X:Cx):List Addr:=frs X.outer
def Vis (sc:Scope)(x:Str):Prop:=sc.names.lookup x=some .local\/sc.names.lookup x=some .cell\/sc.names.lookup x=some .free
def Loc (sc:Scope)(x:Str):Prop:=sc.names.lookup x=some .local\/sc.names.lookup x=some .cell
def ao2 (env:Env)(h:Heap)(m:Str->Option Value)(x:Str)(u:Value):Prop:=
 (env.kindOf x=some .local/\m x=some u)\/((env.kindOf x=some .cell\/env.kindOf x=some .free)/\∃ c,env.cells.lookup x=some c/\h.IsCell c (some u))
structure Cx.Ok (X:Cx):Prop where
 mod:Mod X.K X.mg X.base
 kind:X.env.scope.kind = .function
 glob:X.env.globals=mainGlobals
 blt:X.env.builtins=builtinsNs
 above:X.s₀.heap.objs.size<=X.env.locals
 inj:∀ x y c,X.env.cells.lookup x=some c->X.env.cells.lookup y=some c->x=y
 has:∀ x,(X.env.kindOf x=some .cell\/X.env.kindOf x=some .free)->∃ c,X.env.cells.lookup x=some c
 cab:∀ x c,X.fn x=true->X.env.cells.lookup x=some c->X.s₀.heap.objs.size<=c
 hd:X.calm=true->X.A.handled=none
 frames:X.A.frames=some X.stack
 stk:X.stack=X.outer\/(X.stack=X.env :: X.outer/\X.env.frame=some X.env.locals)
 exf:∀ b∈X.ex,b≠X.env.locals/\∀ x c,X.env.cells.lookup x=some c->c≠b
 bs:∀ b o,X.base.get? b=some o->X.s₀.heap.get? b=some o/\X.H₀ b=none
 bsz:X.base.objs.size<=X.s₀.heap.objs.size
 noex:∀ b o,X.base.get? b=some o->b∉X.ex
 exfs:∀ b∈X.ex,b∉X.fs
 funs:X.s₀.heap.FunFrames X.base X.outer
 frf:∀ b∈X.fs,X.H₀ b=none
structure Inv (X:Cx)(pins:List (Addr×Obj))(σ:List (Option V))(H:Hp)(s:Shared):Prop where
 ok:X.Ok
 os:s.os=X.s₀.os
 bare:AllBare s.gens
 base:Un X.fs X.ex X.H₀ H X.s₀.heap s.heap
 loc:∃ m,s.heap.Ns X.env.locals m/\∀(i:Nat) (x:Str) (v:V),X.N[i]? = some x->σ[i]? = some (some v)->Vis X.env.scope x->∃ u,RelV v u/\ao2 X.env s.heap m x u
 cell:∀ x c,X.env.cells.lookup x=some c->∃ v,s.heap.IsCell c v
 free:H X.env.locals=none
 freeC:∀ x c,X.env.cells.lookup x=some c->H c=none
 pin:∀ p∈X.pn++pins,s.heap.get? p.1=some p.2/\H p.1=none/\p.1≠X.env.locals/\p.1∉X.fs/\∀ v,p.2.data ≠ .cell v
 hok:HOk X.prog X.w H s.heap
 len:σ.length=X.N.length
section
variable {X:Cx}{pins:List (Addr×Obj)}{σ:List (Option V)}{H H':Hp}{s:Shared}{h':Heap}
theorem Cx.Ok.nofr (ok:X.Ok){b:Addr}{o:Obj}(e:X.base.get? b=some o):b∉X.fs:=fun hb=>by
 have:=(ok.funs.mem hb).1
 rw[e] at this;cases this
theorem Inv.bs (I:Inv X pins σ H s):∀ b o,X.base.get? b=some o->s.heap.get? b=some o/\H b=none:=fun b o e=>
 ⟨I.base.keep b o (I.ok.bs b o e).1 (I.ok.bs b o e).2 (I.ok.nofr e) (I.ok.noex b o e),I.base.free b o (I.ok.bs b o e).1 (I.ok.bs b o e).2 (I.ok.noex b o e)⟩
theorem Inv.bk (I:Inv X pins σ H s):∀ b o,X.base.get? b=some o->s.heap.get? b=some o:=fun b o e=>(I.bs b o e).1
theorem Inv.mod (I:Inv X pins σ H s):Mod X.K X.mg X.base:=I.ok.mod
theorem Inv.kIn (I:Inv X pins σ H s):X.K.In s.heap:=I.ok.mod.kin.keeps I.bk
theorem Inv.lt (I:Inv X pins σ H s):X.env.locals<s.heap.objs.size:=let ⟨_,hn,_⟩:=I.loc;hn.lt
theorem Inv.sz (I:Inv X pins σ H s):X.s₀.heap.objs.size<=s.heap.objs.size:=Nat.le_trans I.ok.above (Nat.le_of_lt I.lt)
theorem Inv.nofs (I:Inv X pins σ H s){a:Addr}(h:s.heap.objs.size<=a):a∉X.fs:=fun hb=>by
 obtain⟨_,o,ho,_⟩:=I.ok.funs.mem hb
 exact absurd (Nat.lt_of_lt_of_le (Heap.lt_size ho) (Nat.le_trans I.sz h)) (Nat.lt_irrefl _)
theorem Inv.cne (I:Inv X pins σ H s):∀ x c,X.env.cells.lookup x=some c->c≠X.env.locals:=fun x c e z=>by
 obtain⟨v,o,ho,hd⟩:=I.cell x c e
 obtain⟨m,⟨o',es,ep,ho',hd',_⟩,_⟩:=I.loc
 rw[z,ho'] at ho;cases ho;rw[hd'] at hd;cases hd
theorem Inv.funs (I:Inv X pins σ H s):s.heap.FunFrames X.base X.outer:=by
 have all:∀(l:List Env),(∀ b∈frs l,b∈X.fs)->X.s₀.heap.FunFrames X.base l->s.heap.FunFrames X.base l:=by
  intro l
  induction l with
  | nil=>intro _ _;trivial
  | cons env r ih=>
    intro hs hl
    obtain⟨hk,⟨L,o,hf,hn,ho,hd⟩,hr⟩:=hl
    have hL:L∈X.fs:=hs L (by unfold frs;rw[List.filterMap_cons,hf];exact List.mem_cons_self)
    obtain⟨sl,e⟩:=I.base.slot L o ho (I.ok.frf L hL) hL fun z=>I.ok.exfs L z hL
    exact⟨hk,⟨L,_,hf,hn,e,hd⟩,ih (fun b hb=>hs b (by unfold frs;rw[List.filterMap_cons,hf];exact List.mem_cons_of_mem _ hb)) hr⟩
 exact all X.outer (fun _ hb=>hb) I.ok.funs
theorem Inv.stack (I:Inv X pins σ H s):s.heap.FunFrames X.base X.stack:=by
 rcases I.ok.stk with e | ⟨e,hf⟩
 . rw[e];exact I.funs
 rw[e]
 obtain⟨m,hn,_⟩:=I.loc
 refine .cons (by rw[I.ok.kind];decide) hf hn ?_ I.funs
 exact Heap.get?_none_of_le (Nat.le_trans I.ok.bsz I.ok.above)
theorem Inv.stkSub (I:Inv X pins σ H s):∀ b∈frs X.stack,b∈X.env.locals :: X.fs:=fun b hb=>by
 rcases I.ok.stk with e | ⟨e,hf⟩
 . rw[e] at hb;exact List.mem_cons_of_mem _ hb
 rw[e] at hb
 unfold frs at hb
 rw[List.filterMap_cons,hf] at hb
 exact hb
theorem Inv.stkFree (I:Inv X pins σ H s):∀ b∈frs X.stack,H b=none:=fun b hb=>by
 rcases List.mem_cons.mp (I.stkSub b hb) with e | hb
 . rw[e];exact I.free
 obtain⟨_,o,ho,_⟩:=I.ok.funs.mem hb
 exact I.base.free b o ho (I.ok.frf b hb) fun z=>I.ok.exfs b z hb
theorem Inv.step {g':Array GenState}{t':Nat}{d':Drawn}{ch:List Addr}(I:Inv X pins σ H s)
  (hch:∀ b∈ch,(b∈X.ex\/X.s₀.heap.objs.size<=b)/\b≠X.env.locals/\(∀ x c,X.env.cells.lookup x=some c->c≠b)/\∀ p∈X.pn++pins,p.1≠b)
  (keep:∀ b o,b≠X.env.locals->b∉X.fs->b∉ch->s.heap.get? b=some o->H b=none->h'.get? b=some o)
  (slot:∀ b o,b≠X.env.locals->b∈X.fs->b∉ch->s.heap.get? b=some o->H b=none->∃ sl,h'.get? b=some { o with slots:=sl }) (free:∀ b o,b∉ch->s.heap.get? b=some o->H b=none->H' b=none)
  (there:∀ b o,b∉ch->s.heap.get? b=some o->∃ o',h'.get? b=some o')
  (tups:∀ b xs,H b=some (.tup xs)->H' b=some (.tup xs)) (frzs:∀ b o u,H b=some (.frz o u)->H' b=some (.frz o u)) (tbls:∀ b ps,H b=some (.tbl ps)->∃ more,H' b=some (.tbl (ps++more)))
  (ns:∀ m,s.heap.Ns X.env.locals m->h'.Ns X.env.locals m) (hok:HOk X.prog X.w H' h') (hg:AllBare g') :
  Inv X pins σ H' { s with heap:=h',gens:=g',drawn:=d',toks:=t' }:=by
 have neL:∀ b o,X.s₀.heap.get? b=some o->b≠X.env.locals:=fun b o e=>Nat.ne_of_lt (Nat.lt_of_lt_of_le (Heap.lt_size e) I.ok.above)
 have neC:∀ b o,X.s₀.heap.get? b=some o->b∉X.ex->b∉ch:=fun b o e hx hb=>by
  rcases(hch b hb).1 with z | z
  . exact hx z
  exact absurd (Nat.lt_of_lt_of_le (Heap.lt_size e) z) (Nat.lt_irrefl _)
 have cellK:∀ x c,X.env.cells.lookup x=some c->∀ v,s.heap.IsCell c v->h'.IsCell c v:=fun x c e v ⟨o,ho,hd⟩=>by
  have nch:c∉ch:=fun z=>(hch c z).2.2.1 x c e rfl
  by_cases hc:c∈X.fs
  . obtain⟨sl,q⟩:=slot c o (I.cne x c e) hc nch ho (I.freeC x c e)
    exact⟨_,q,hd⟩
  exact⟨o,keep c o (I.cne x c e) hc nch ho (I.freeC x c e),hd⟩
 refine⟨I.ok,I.os,hg,⟨fun b o e n hb hx=>?_,fun b o e n hb hx=>?_,fun b o e n hx=>?_,fun b o e hx=>?_,fun b xs e=>tups b xs (I.base.tups b xs e),fun b o xs e=>frzs b o xs (I.base.frzs b o xs e),fun b ps e=>?_⟩,?_,fun x c e=>?_,?_,fun x c e=>?_,fun p hp=>?_,hok,I.len⟩
 . exact keep b o (neL b o e) hb (neC b o e hx) (I.base.keep b o e n hb hx) (I.base.free b o e n hx)
 . obtain⟨sl,e1⟩:=I.base.slot b o e n hb hx
   obtain⟨sl',e2⟩:=slot b _ (neL b o e) hb (neC b o e hx) e1 (I.base.free b o e n hx)
   exact⟨sl',e2⟩
 . obtain⟨o',e1⟩:=I.base.there b o e hx
   exact free b o' (neC b o e hx) e1 (I.base.free b o e n hx)
 . obtain⟨o',e1⟩:=I.base.there b o e hx
   exact there b o' (neC b o e hx) e1
 . obtain⟨m1,e1⟩:=I.base.tbls b ps e
   obtain⟨m2,e2⟩:=tbls b _ e1
   exact⟨m1++m2,by rw[e2,Array.append_assoc]⟩
 . obtain⟨m,hn,hl⟩:=I.loc
   refine⟨m,ns m hn,fun i x v e1 e2 e3=>?_⟩
   obtain⟨u,r,l⟩:=hl i x v e1 e2 e3
   refine⟨u,r,?_⟩
   rcases l with l | ⟨k,c,e,z⟩
   . exact .inl l
   exact .inr ⟨k,c,e,cellK x c e _ z⟩
 . obtain⟨v,z⟩:=I.cell x c e
   exact⟨v,cellK x c e v z⟩
 . obtain⟨m,⟨o,_,_,ho,_⟩,_⟩:=I.loc
   exact free _ o (fun z=>(hch _ z).2.1 rfl) ho I.free
 . obtain⟨v,o,ho,hd⟩:=I.cell x c e
   exact free c o (fun z=>(hch c z).2.2.1 x c e rfl) ho (I.freeC x c e)
 obtain⟨e,n,ne,nf,d⟩:=I.pin p hp
 have nch:p.1∉ch:=fun z=>(hch p.1 z).2.2.2 p hp rfl
 exact⟨keep p.1 p.2 ne nf nch e n,free p.1 p.2 nch e n,ne,nf,d⟩
theorem Inv.un {t':Nat}(I:Inv X pins σ H s)(u:Un X.fs [] H H' s.heap h')(hok:HOk X.prog X.w H' h'):Inv X pins σ H' { s with heap:=h',toks:=t' }:=by
 obtain⟨m,⟨o,es,ep,ho,r⟩,_⟩:=id I.loc
 obtain⟨sl,hL⟩:=u.any ho I.free (by simp)
 exact I.step (g':=s.gens) (d':=s.drawn) (ch:=[]) (fun _ z=>nomatch z) (fun b o _ hb _ e n=>u.keep b o e n hb (by simp)) (fun b o _ hb _ e n=>u.slot b o e n hb (by simp)) (fun b o _ e n=>u.free b o e n (by simp)) (fun b o _ e=>u.there b o e (by simp)) u.tups u.frzs u.tbls (fun m' hm=>by
  obtain⟨o',es',ep',ho',r'⟩:=hm
  rw[ho] at ho';cases ho'
  exact⟨_,es',ep',hL,r'⟩) hok I.bare
theorem Inv.call {g':Array GenState}{t':Nat}{d':Drawn}{ch:List Addr}(I:Inv X pins σ H s)(u:Un (frs X.stack) ch H H' s.heap h')(hok:HOk X.prog X.w H' h')(hg:AllBare g')
  (hch:∀ b∈ch,(b∈X.ex\/X.s₀.heap.objs.size<=b)/\b≠X.env.locals/\(∀ x c,X.env.cells.lookup x=some c->c≠b)/\∀ p∈X.pn++pins,p.1≠b) :
  Inv X pins σ H' { s with heap:=h',gens:=g',drawn:=d',toks:=t' }:=by
 obtain⟨m,⟨o,es,ep,ho,r⟩,_⟩:=id I.loc
 obtain⟨sl,hL⟩:=u.any ho I.free fun z=>(hch _ z).2.1 rfl
 exact I.step (ch:=ch) hch (fun b o hL hb hc e n=>u.keep b o e n (fun z=>(List.mem_cons.mp (I.stkSub b z)).elim hL hb) hc) (fun b o _ _ hc e n=>u.any e n hc) (fun b o hc e n=>u.free b o e n hc) (fun b o hc e=>u.there b o e hc) u.tups u.frzs u.tbls (fun m' hm=>by
  obtain⟨o',es',ep',ho',r'⟩:=hm
  rw[ho] at ho';cases ho'
  exact⟨_,es',ep',hL,r'⟩) hok hg
theorem Inv.turned {t':Nat}{it:Addr}(I:Inv X pins σ H s)(k:∀ b o,b≠it->s.heap.get? b=some o->h'.get? b=some o)(hn:H it=none)(hL:it≠X.env.locals)
  (h1:it∈X.ex\/X.s₀.heap.objs.size<=it) (h2:∀ x c,X.env.cells.lookup x=some c->c≠it) (h3:∀ p∈X.pn++pins,p.1≠it):Inv X pins σ H { s with heap:=h',toks:=t' }:=by
 have nit:∀ b u,H b=some u->b≠it:=fun b u e z=>by rw[z,hn] at e;cases e
 refine I.step (g':=s.gens) (d':=s.drawn) (ch:=[it]) (fun b hb=>?_) (fun b o _ _ hc e _=>k b o (fun z=>hc (by simp[z])) e) (fun b o _ _ hc e _=>⟨o.slots,k b o (fun z=>hc (by simp[z])) e⟩) (fun _ _ _ _ n=>n)
  (fun b o hc e=>⟨o,k b o (fun z=>hc (by simp[z])) e⟩) (fun _ _ e=>e) (fun _ _ _ e=>e) (fun b ps e=>⟨#[],by rw[e];simp⟩) (fun m hm=>?_) (fun b u e=>?_) I.bare
 . have e:b=it:=by simpa using hb
   subst e
   exact⟨h1,hL,h2,h3⟩
 . obtain⟨o,es,ep,ho,r⟩:=hm
   exact⟨o,es,ep,k _ o (Ne.symm hL) ho,r⟩
 refine(I.hok b u e).stay (fun c v hc q=>k c v ?_ q) (fun _ q=>q) fun _ _ q=>q
 rcases hc with z | z
 . rw[z];exact nit b u e
 exact nit c _ z
theorem Inv.tok (I:Inv X pins σ H s)(t:Nat):Inv X pins σ H { s with toks:=t }:=I.un (h':=s.heap) (t':=t) Un.refl I.hok
theorem Inv.kept {t':Nat}(I:Inv X pins σ H s)(k:∀ b u,s.heap.get? b=some u->h'.get? b=some u):Inv X pins σ H { s with heap:=h',toks:=t' }:=I.un (Un.kept k) (I.hok.kept k)
theorem Inv.laid {a:Addr}{o:HO}{t':Nat}(I:Inv X pins σ H s)(k:∀ b u,s.heap.get? b=some u->h'.get? b=some u)(hp:s.heap.objs.size<=a)(new:ObjOk X.prog X.w (upd H a o) h' a o) :
  Inv X pins σ (upd H a o) { s with heap:=h',toks:=t' }:=I.un (Un.laid k hp (I.hok.fresh hp)) (I.hok.laid k hp new)
theorem Inv.write {x e:Addr}{o:HO}{t':Nat}(I:Inv X pins σ H s)(mu:Mut (H x))(he:e=x\/H e=some (.own x))(k:∀ b u,b≠e->s.heap.get? b=some u->h'.get? b=some u)(heo:∃ u,h'.get? e=some u)
  (new:ObjOk X.prog X.w (upd H x o) h' x o):Inv X pins σ (upd H x o) { s with heap:=h',toks:=t' }:=I.un (Un.write mu he k heo) (I.hok.write mu he k heo new)
theorem Inv.weak {σ':List (Option V)}(I:Inv X pins σ H s)(hl:σ'.length=σ.length)(w:∀(i:Nat) v,σ'[i]? = some (some v)->σ[i]? = some (some v)):Inv X pins σ' H s:=
 ⟨I.ok,I.os,I.bare,I.base,let ⟨m,hn,hl'⟩:=I.loc;⟨m,hn,fun i x v e1 e2 e3=>hl' i x v e1 (w i v e2) e3⟩,I.cell,I.free,I.freeC,I.pin,I.hok,hl.trans I.len⟩
theorem Inv.pins_of {pins':List (Addr×Obj)}(I:Inv X pins σ H s)(h:∀ p∈pins',s.heap.get? p.1=some p.2/\H p.1=none/\p.1≠X.env.locals/\p.1∉X.fs/\∀ v,p.2.data ≠ .cell v):Inv X pins' σ H s:=
 ⟨I.ok,I.os,I.bare,I.base,I.loc,I.cell,I.free,I.freeC,fun p hp=>(List.mem_append.mp hp).elim (fun z=>I.pin p (List.mem_append_left _ z)) (h p),I.hok,I.len⟩
theorem Ps {N:List Str}(hN:N.Nodup){i j:Nat}{x:Str}(a:N[i]? = some x)(b:N[j]? = some x):i=j:=by
 obtain⟨h1,e1⟩:=List.getElem?_eq_some_iff.mp a
 obtain⟨h2,e2⟩:=List.getElem?_eq_some_iff.mp b
 exact(List.getElem_inj hN).mp (e1.trans e2.symm)
theorem Mv {M:Model}{A:Around}{E:Value->Shared->Prop}{i:Nat}{x:Str}{v:V}{u:Value}{Q:Unit->Shared->Prop}(I:Inv X pins σ H s)(hN:X.N.Nodup)(hi:X.N[i]? = some x)(hx:Loc X.env.scope x)(r:RelV v u)
  (h:∀ s',Inv X pins (σ.set i (some v)) H s'->(∃ a,Heap.SameBut a s.heap s'.heap/\(a=X.env.locals\/X.env.cells.lookup x=some a))->Q () s') (hf:X.fn x=true\/X.env.scope.names.lookup x=some .local:=by with_unfolding_all (first | exact .inl rfl | exact .inr rfl | assumption)):wpAny M A (storeName X.env x u) Q E s:=by
 obtain⟨m,hn,hl⟩:=id I.loc
 have hcls:(X.env.scope.kind == .class||(X.env.scope.kind == .module&&X.env.locals != X.env.globals))=false:=by rw[I.ok.kind];rfl
 have hiσ:i<σ.length:=by rw[I.len];exact(List.getElem?_eq_some_iff.mp hi).1
 have cne:=I.cne
 have tracked:∀ {a:Addr} {h':Heap},(∃ o,s.heap.get? a=some o/\H a=none)->Heap.SameBut a s.heap h'->HOk X.prog X.w H h':=fun {a h'} ha hs b ob e=>by
  obtain⟨_,_,hfree⟩:=ha
  refine(I.hok b ob e).stay (fun c w' hc q=>(hs.2 c ?_).trans q) (fun _ q=>q) fun _ _ q=>q
  rintro rfl
  rcases hc with rfl | hc
  . rw[hfree] at e;cases e
  rw[hfree] at hc;cases hc
 rcases hx with hk | hk
 . refine wpAny_storeName_local hk hn (fun h' hn' hs=>?_) hcls
   obtain⟨oL,_,_,hoL,_⟩:=id hn
   refine h _ ⟨I.ok,I.os,I.bare,⟨fun b o e n hb hx=>?_,fun b o e n hb hx=>?_,I.base.free,fun b o e hx=>?_,I.base.tups,I.base.frzs,I.base.tbls⟩,⟨_,hn',fun j y v' e1 e2 e3=>?_⟩,fun y c e=>?_,I.free,I.freeC,fun p hp=>?_,tracked ⟨oL,hoL,I.free⟩ hs,by simpa using I.len⟩ ⟨_,hs,.inl rfl⟩
   . exact(hs.2 b (Nat.ne_of_lt (Nat.lt_of_lt_of_le (Heap.lt_size e) I.ok.above))).trans (I.base.keep b o e n hb hx)
   . obtain⟨sl,e1⟩:=I.base.slot b o e n hb hx
     exact⟨sl,(hs.2 b (Nat.ne_of_lt (Nat.lt_of_lt_of_le (Heap.lt_size e) I.ok.above))).trans e1⟩
   . obtain⟨o',e1⟩:=I.base.there b o e hx
     exact⟨o',(hs.2 b (Nat.ne_of_lt (Nat.lt_of_lt_of_le (Heap.lt_size e) I.ok.above))).trans e1⟩
   . by_cases hj:j=i
     . subst hj
       rw[hi] at e1;cases e1
       rw[List.getElem?_set_self hiσ] at e2
       cases e2
       exact⟨u,r,.inl ⟨hk,by simp⟩⟩
     rw[List.getElem?_set_ne (Ne.symm hj)] at e2
     obtain⟨u',r',q⟩:=hl j y v' e1 e2 e3
     refine⟨u',r',?_⟩
     rcases q with ⟨k,e⟩ | ⟨k,c,e,z⟩
     . refine .inl ⟨k,?_⟩
       have:y≠x:=fun e=>hj (Ps hN e1 (e ▸ hi))
       simp[this,e]
     exact .inr ⟨k,c,e,z.sameBut hs (cne y c e)⟩
   . obtain⟨w',z⟩:=I.cell y c e
     exact⟨w',z.sameBut hs (cne y c e)⟩
   obtain⟨e,n,ne,nf,d⟩:=I.pin p hp
   exact⟨(hs.2 p.1 ne).trans e,n,ne,nf,d⟩
 have hfn:X.fn x=true:=by
  rcases hf with z | z
  . exact z
  rw[z] at hk;cases hk
 obtain⟨c,hc⟩:=I.ok.has x (.inl hk)
 obtain⟨w',z⟩:=I.cell x c hc
 refine wpAny_storeName_cell I.ok.kind hk hc z (fun h' hc' hs=>?_)
 obtain⟨oc,hoc,hocd⟩:=id z
 refine h { s with heap:=h' } ⟨I.ok,I.os,I.bare,⟨fun b o e n hb hx=>?_,fun b o e n hb hx=>?_,I.base.free,fun b o e hx=>?_,I.base.tups,I.base.frzs,I.base.tbls⟩,⟨m,hn.sameBut hs (Ne.symm (cne x c hc)),fun j y v' e1 e2 e3=>?_⟩,fun y c' e=>?_,I.free,I.freeC,fun p hp=>?_,tracked ⟨oc,hoc,I.freeC x c hc⟩ hs,by simpa using I.len⟩ ⟨c,hs,.inr hc⟩
 . exact(hs.2 b (Nat.ne_of_lt (Nat.lt_of_lt_of_le (Heap.lt_size e) (I.ok.cab x c hfn hc)))).trans (I.base.keep b o e n hb hx)
 . obtain⟨sl,e1⟩:=I.base.slot b o e n hb hx
   exact⟨sl,(hs.2 b (Nat.ne_of_lt (Nat.lt_of_lt_of_le (Heap.lt_size e) (I.ok.cab x c hfn hc)))).trans e1⟩
 . obtain⟨o',e1⟩:=I.base.there b o e hx
   exact⟨o',(hs.2 b (Nat.ne_of_lt (Nat.lt_of_lt_of_le (Heap.lt_size e) (I.ok.cab x c hfn hc)))).trans e1⟩
 . by_cases hj:j=i
   . subst hj
     rw[hi] at e1;cases e1
     rw[List.getElem?_set_self hiσ] at e2
     cases e2
     exact⟨u,r,.inr ⟨.inl hk,c,hc,hc'⟩⟩
   rw[List.getElem?_set_ne (Ne.symm hj)] at e2
   obtain⟨u',r',q⟩:=hl j y v' e1 e2 e3
   refine⟨u',r',?_⟩
   rcases q with q | ⟨k,c',e,z'⟩
   . exact .inl q
   refine .inr ⟨k,c',e,z'.sameBut hs ?_⟩
   rintro rfl
   exact hj (Ps hN e1 (I.ok.inj _ _ _ e hc ▸ hi))
 . by_cases hcc:c'=c
   . subst hcc;exact⟨_,hc'⟩
   obtain⟨w2,z2⟩:=I.cell y c' e
   exact⟨w2,z2.sameBut hs hcc⟩
 obtain⟨e,n,ne,nf,d⟩:=I.pin p hp
 refine⟨(hs.2 p.1 ?_).trans e,n,ne,nf,d⟩
 intro q
 rw[q,hoc] at e
 have q':oc=p.2:=Option.some.inj e
 exact d w' (by rw[<- q'];exact hocd)
theorem Qq {M:Model}{A:Around}{E:Value->Shared->Prop}{i:Nat}{x:Str}{v:V}{u:Value}{Q:Unit->Shared->Prop}(I:Inv X pins σ H s)(hN:X.N.Nodup)(hi:X.N[i]? = some x)(hx:Loc X.env.scope x)(r:RelV v u)
  (h:∀ s',Inv X pins (σ.set i (some v)) H s'->Q () s') (hf:X.fn x=true\/X.env.scope.names.lookup x=some .local:=by with_unfolding_all (first | exact .inl rfl | exact .inr rfl | assumption)):wpAny M A (storeName X.env x u) Q E s:=
 Mv I hN hi hx r (fun s' I' _=>h s' I') hf
theorem Inv.call' {s':Shared}{ch:List Addr}(I:Inv X pins σ H s)(ho:s'.os=s.os)(u:Un (frs X.stack) ch H H' s.heap s'.heap)(hok:HOk X.prog X.w H' s'.heap)(hg:AllBare s'.gens)
  (hch:∀ b∈ch,(b∈X.ex\/X.s₀.heap.objs.size<=b)/\b≠X.env.locals/\(∀ x c,X.env.cells.lookup x=some c->c≠b)/\∀ p∈X.pn++pins,p.1≠b):Inv X pins σ H' s':=by
 obtain⟨h',g',d',t',o'⟩:=s'
 have e:o'=s.os:=ho
 subst e
 exact I.call (g':=g') (t':=t') (d':=d') u hok hg hch
end
abbrev XK:=Value->Option Addr->Hp->Prop
abbrev St:=List (Option V)
abbrev VK:=V->Hp->Prop
abbrev TE:=St->Hp->VK->Prop
abbrev TT:=St->Hp->(Bool->Hp->Prop)->Prop
abbrev TA:=St->Hp->(List V->Hp->Prop)->Prop
structure Ka where
 nx:St->Hp->Prop
 rt:VK
 bk:St->Hp->Prop:=fun _ _=>False
 ct:St->Hp->Prop:=fun _ _=>False
abbrev TS:=Ka->St->Hp->Prop
def EP (X:Cx)(pins:List (Addr×Obj))(σ:St)(Q:VK)(u:Value)(s':Shared):Prop:=∃ v H',Inv X pins σ H' s'/\RelV v u/\Q v H'
def TP (X:Cx)(pins:List (Addr×Obj))(σ:St)(Q:Bool->Hp->Prop)(b:Bool)(s':Shared):Prop:=∃ H',Inv X pins σ H' s'/\Q b H'
def AP (X:Cx)(pins:List (Addr×Obj))(σ:St)(Q:List V->Hp->Prop)(us:List Value)(s':Shared):Prop:=∃ vs H',Inv X pins σ H' s'/\Vals vs us/\Q vs H'
def SP (X:Cx)(pins:List (Addr×Obj))(D:Ka)(f:Flow)(s':Shared):Prop:=
 match f with
 | .next=>∃ σ' H',Inv X pins σ' H' s'/\D.nx σ' H'
 | .brk=>∃ σ' H',Inv X pins σ' H' s'/\D.bk σ' H'
 | .cont=>∃ σ' H',Inv X pins σ' H' s'/\D.ct σ' H'
 | .ret u=>∃ v σ' H',Inv X pins σ' H' s'/\RelV v u/\D.rt v H'
def PE (X:Cx)(e:Expr)(t:TE):Prop:=
 ∀(pins:List (Addr×Obj)) (s:Shared) (σ:St) (H:Hp) (Q:VK),Inv X pins σ H s->t σ H Q->wpAny (model X.prog X.w) X.A (eval e X.env) (EP X pins σ Q) X.xe s
def PT (X:Cx)(e:Expr)(t:TT):Prop:=
 ∀(pins:List (Addr×Obj)) (s:Shared) (σ:St) (H:Hp) (Q:Bool->Hp->Prop),Inv X pins σ H s->t σ H Q->wpAny (model X.prog X.w) X.A (isTrue e X.env (eval e X.env)) (TP X pins σ Q) X.xe s
def PW (X:Cx)(e:Expr)(t:TT):Prop:=
 ∀(whole:Sem Value) (pins:List (Addr×Obj)) (s:Shared) (σ:St) (H:Hp) (Q:Bool->Hp->Prop),Inv X pins σ H s->t σ H Q->wpAny (model X.prog X.w) X.A (isTrue e X.env whole) (TP X pins σ Q) X.xe s
theorem PW.pt {X:Cx}{e:Expr}{t:TT}(h:PW X e t):PT X e t:=h _
def PA (X:Cx)(es:List Expr)(t:TA):Prop:=
 ∀(pos:Pos) (pins:List (Addr×Obj)) (s:Shared) (σ:St) (H:Hp) (Q:List V->Hp->Prop),Inv X pins σ H s->t σ H Q->wpAny (model X.prog X.w) X.A (spliced (backTo pos (starEach es X.env))) (AP X pins σ Q) X.xe s
def PS (X:Cx)(st:Stmt)(t:TS):Prop:=
 ∀(pins:List (Addr×Obj)) (s:Shared) (σ:St) (H:Hp) (D:Ka),Inv X pins σ H s->t D σ H->wpAny (model X.prog X.w) X.A (exec st X.env) (SP X pins D) X.xe s
def PSs (X:Cx)(st:List Stmt)(t:TS):Prop:=
 ∀(pins:List (Addr×Obj)) (s:Shared) (σ:St) (H:Hp) (D:Ka),Inv X pins σ H s->t D σ H->wpAny (model X.prog X.w) X.A (execs st X.env) (SP X pins D) X.xe s
theorem thn {α:Type}{t:Sem α}{Q Q':α->Shared->Prop}{M:Model}{A:Around}{E:Value->Shared->Prop}{s:Shared}(h:wpAny M A t Q E s)(hQ:∀ a s,Q a s->Q' a s):wpAny M A t Q' E s:=wpAny_mono h hQ fun _ _ x=>x
section
variable {X:Cx}
def ak7 (i:Nat):TE:=fun σ H Q=>∃ v,σ[i]? = some (some v)/\Q v H
def tC (v:V):TE:=fun _ H Q=>Q v H
theorem ad7 {i:Nat}{x:Str}{pos:Pos}(hN:X.N[i]? = some x)(hv:Vis X.env.scope x)(hd:(x==("__debug__":Str))=false:=by decide)(hcd:(x==("__classdict__":Str))=false:=by decide):PE X (.Name x pos) (ak7 i):=by
 intro pins s σ H Q I h
 obtain⟨v,e,h⟩:=h
 obtain⟨m,hn,hl⟩:=I.loc
 obtain⟨u,r,l⟩:=hl i x v hN e hv
 have fin:EP X pins σ Q u s:=⟨v,H,I,r,h⟩
 rcases l with ⟨hk,hm⟩ | ⟨hk,c,hc,hcell⟩
 . exact wpAny_Name (wpAny_loadName_local I.ok.kind hk hn hm fin) hd
 rcases hk with hk | hk
 . exact wpAny_Name (wpAny_loadName_cell I.ok.kind hk hc hcell fin) hd
 exact wpAny_Name (wpAny_loadName_free I.ok.kind hk hc hcell fin hcd) hd
theorem A5 {i j pos}:PE X (.Constant (.int i) j pos) (tC (.int i)):=fun _ _ _ H _ I h=>wpAny_Constant_int ⟨.int i,H,I.tok _,⟨_,rfl⟩,h⟩
theorem af9 {b j pos}:PE X (.Constant (.bool b) j pos) (tC (.bl b)):=fun _ _ _ H _ I h=>Constant_bool ⟨.bl b,H,I,rfl,h⟩
theorem Y6 {j pos}:PE X (.Constant .none j pos) (tC .non):=fun _ _ _ H _ I h=>Constant_none ⟨.non,H,I,rfl,h⟩
theorem Bb {x j pos}:PE X (.Constant (.str x) j pos) (tC (.str x)):=fun _ _ _ H _ I h=>Calls.Constant_str ⟨.str x,H,I.tok _,⟨_,rfl⟩,h⟩
def Gl (X:Cx)(x:Str):Prop:=X.env.kindOf x=some .globalImplicit
theorem Ti {E:Value->Shared->Prop}{pins:List (Addr×Obj)}{s:Shared}{σ:St}{H:Hp}{x:Str}{u:Value}{pos:Pos}{Q:Value->Shared->Prop}(I:Inv X pins σ H s)(hg:Gl X x)(hm:X.mg x=some u)(h:Q u s)
  (hd:(x==("__debug__":Str))=false:=by decide):wpAny (model X.prog X.w) X.A (eval (.Name x pos) X.env) Q E s:=
 Calls.Name_function_global I.ok.kind hg (Calls.loadGlobal_global (by rw[I.ok.glob];exact I.mod.glob.keeps I.bk) hm h) hd
theorem J8 {E:Value->Shared->Prop}{pins:List (Addr×Obj)}{s:Shared}{σ:St}{H:Hp}{x:Str}{u:Value}{pos:Pos}{Q:Value->Shared->Prop}(I:Inv X pins σ H s)(hg:Gl X x)(hm:X.mg x=none)(hv:bootBuiltins x=some u)(h:Q u s)
  (hn:x ≠ "__name__":=by decide) (hd:(x==("__debug__":Str))=false:=by decide):wpAny (model X.prog X.w) X.A (eval (.Name x pos) X.env) Q E s:=by
 obtain⟨mb,h1,h2⟩:=I.mod.blt
 exact Calls.Name_function_global I.ok.kind hg (Calls.loadGlobal_builtin (by rw[I.ok.glob];exact I.mod.glob.keeps I.bk) hm (by rw[I.ok.blt];exact h1.keeps I.bk) ((h2 x hn).trans hv) h) hd
variable {a b:Expr}{ta tb:TE}{pos:Pos}
def tB (t:TE):TT:=fun σ H Q=>t σ H fun x H1=>∃ c,x = .bl c/\Q c H1
theorem Yt {e:Expr}{t:TE}(h:PE X e t)(he:∀ whole,isTrue e X.env whole=(do let v <- whole;standAt e.pos;holding [v] (truthy v)):=by intro _;ac_nf):PT X e (tB t):=by
 intro pins s σ H Q I hw
 refine isTrue_plain (thn (h pins s σ H _ I hw) fun v s1 ⟨x,H1,I1,r1,q1⟩=>?_) (he _)
 obtain⟨d,rfl,q⟩:=q1
 cases r1
 exact wpAny_truthy_bool ⟨H1,I1,q⟩
variable {tA tB':TT}{rest:List Expr}
def an0 (t u:TT):TT:=fun σ H Q=>t σ H fun c H1=>if c=true then u σ H1 Q else Q false H1
def an3 (t:TT):TT:=fun σ H Q=>t σ H fun c H1=>Q (!c) H1
theorem Pb (ha:PT X a tA):PW X (.BoolOp .And [a] pos) tA:=by
 intro wh pins s σ H Q I h
 refine isTrue_and (thn (ha pins s σ H Q I h) fun c s1 e=>?_)
 cases c with
 | true=>exact isTrue_and_nil e
 | false=>exact e
theorem Tm (ha:PT X a tA)(hb:PW X (.BoolOp .And (b :: rest) pos) tB'):PW X (.BoolOp .And (a :: b :: rest) pos) (an0 tA tB'):=by
 intro wh pins s σ H Q I h
 refine isTrue_and (thn (ha pins s σ H _ I h) fun c s1 ⟨H1,I1,q1⟩=>?_)
 cases c with
 | true=>exact hb wh pins s1 σ H1 Q I1 q1
 | false=>exact⟨H1,I1,q1⟩
theorem Y9 (ha:PT X a tA):PT X (.UnaryOp .Not a pos) (an3 tA):=by
 intro pins s σ H Q I h
 exact isTrue_not (ha pins s σ H (fun c H1=>Q (!c) H1) I h)
def aa1 (ta tb:TE):TE:=fun σ H Q=>ta σ H fun x H1=>∃ c,x = .bl c/\if c=true then tb σ H1 Q else Q (.bl false) H1
theorem Xs {op}{t:TE}(h:PE X a t):PE X (.BoolOp op [a] pos) t:=fun pins s σ H Q I hw=>BoolOp_one (h pins s σ H Q I hw)
theorem Yv (ha:PE X a ta)(hb:PE X (.BoolOp .And (b :: rest) pos) tb):PE X (.BoolOp .And (a :: b :: rest) pos) (aa1 ta tb):=by
 intro pins s σ H Q I h
 refine BoolOp_and (thn (ha pins s σ H _ I h) fun v s1 ⟨x,H1,I1,r1,q1⟩=>?_)
 obtain⟨c,rfl,q1⟩:=q1
 cases r1
 refine wpAny_truthy_bool ?_
 cases c with
 | true=>exact hb pins s1 σ H1 Q I1 q1
 | false=>exact⟨.bl false,H1,I1,rfl,q1⟩
end
def SqL (K:PySem.W.Frag)(H:Hp)(a:Addr)(xs:List V):Prop:=
 Rd H a (.lst xs) \/
  ∃(o:Obj) (its:Array Value) (n:Nat),K.lookup a=some o/\o.cls = .type "list" /\ o.dict=none/\o.data = .seq its n/\its.size<=sizeLine/\Vals xs its.toList
def SqT (K:PySem.W.Frag)(H:Hp)(a:Addr)(xs:List V):Prop:=
 Rd H a (.tup xs) \/
  ∃(o:Obj) (its:Array Value) (n:Nat),K.lookup a=some o/\o.cls = .type "tuple" /\ o.data = .seq its n/\its.size<=sizeLine/\Vals xs its.toList/\o.dict=none
def absV:Value->Option V
 | .none=>some .non
 | .bool b=>some (.bl b)
 | .int i _=>some (.int i)
 | .str x _=>some (.str x)
 | .bytes b _=>some (.byt b)
 | .float b _=>some (.flt b)
 | .ref a=>some (.ref a)
 | .type n=>some (.ty n)
 | _=>none
theorem RelV.abs {x:V}{u:Value}(r:RelV x u):absV u=some x:=by
 cases x with
 | non=>cases r;rfl
 | bl _=>cases r;rfl
 | int _=>obtain⟨t,rfl⟩:=r;rfl
 | str _=>obtain⟨t,rfl⟩:=r;rfl
 | byt _=>obtain⟨t,rfl⟩:=r;rfl
 | flt _=>obtain⟨t,rfl⟩:=r;rfl
 | ref _=>cases r;rfl
 | ty _=>cases r;rfl
theorem RelV.inj {x y:V}{u:Value}(r:RelV x u)(q:RelV y u):x=y:=Option.some.inj (r.abs.symm.trans q.abs)
theorem Vals.inj:∀ {xs ys:List V} {us:List Value},Vals xs us->Vals ys us->xs=ys
 | _,_,_,.nil,.nil=>rfl
 | _,_,_,.cons r t,.cons r' t'=>by rw[r.inj r',Vals.inj t t']
section
variable {X:Cx}{pins:List (Addr×Obj)}{σ:St}{H:Hp}{s:Shared}{a:Addr}{xs ys:List V}
theorem SqL.of {K:PySem.W.Frag}(h:H a=some (.lst xs)):SqL K H a xs:=.inl (.inl h)
theorem SqT.of {K:PySem.W.Frag}(h:H a=some (.tup xs)):SqT K H a xs:=.inl (.inl h)
theorem Inv.list (I:Inv X pins σ H s)(h:SqL X.K H a xs):∃ its:List Value,Vals xs its/\PlainL s.heap a its.toArray/\xs.length<=sizeLine:=by
 rcases h with h | ⟨o,its,n,hk,hc,hd,hs,hz,r⟩
 . obtain⟨z,its,n,r,e⟩:=h.ok I.hok
   exact⟨its,r,⟨_,n,e,rfl,rfl,rfl⟩,z⟩
 refine⟨its.toList,r,⟨o,n,I.kIn a o hk,hc,hd,by simpa using hs⟩,?_⟩
 have e:=r.length
 simp only[Array.length_toList] at e
 omega
theorem Inv.tuple (I:Inv X pins σ H s)(h:SqT X.K H a xs):∃ its:List Value,Vals xs its/\IsTup s.heap a its.toArray/\xs.length<=sizeLine:=by
 rcases h with h | ⟨o,its,n,hk,hc,hs,hz,r,hn⟩
 . obtain⟨z,its,r,p⟩:=h.ok I.hok
   exact⟨its,r,p.tup,z⟩
 refine⟨its.toList,r,⟨o,I.kIn a o hk,hc,n,by simpa using hs⟩,?_⟩
 have e:=r.length
 simp only[Array.length_toList] at e
 omega
theorem Inv.tupleN (I:Inv X pins σ H s)(h:SqT X.K H a xs):∃ ob,s.heap.get? a=some ob/\ob.dict=none:=by
 rcases h with h | ⟨o,its,n,hk,hc,hs,hz,r,hn⟩
 . obtain⟨z,its,r,o,h1,_,_,h2⟩:=h.ok I.hok
   exact⟨o,h1,h2⟩
 exact⟨o,I.kIn a o hk,hn⟩
theorem Inv.list_inj (I:Inv X pins σ H s)(h:SqL X.K H a xs)(h':SqL X.K H a ys):xs=ys:=by
 obtain⟨its,r,⟨o,n,e,_,_,d⟩,_⟩:=I.list h
 obtain⟨its',r',⟨o',n',e',_,_,d'⟩,_⟩:=I.list h'
 rw[e] at e';cases e'
 rw[d] at d'
 injection d' with d1 _
 have:its=its':=by simpa using congrArg Array.toList d1
 subst this
 exact r.inj r'
theorem Inv.tuple_inj (I:Inv X pins σ H s)(h:SqT X.K H a xs)(h':SqT X.K H a ys):xs=ys:=by
 obtain⟨its,r,⟨o,e,_,n,d⟩,_⟩:=I.tuple h
 obtain⟨its',r',⟨o',e',_,n',d'⟩,_⟩:=I.tuple h'
 rw[e] at e';cases e'
 rw[d] at d'
 injection d' with d1 _
 have:its=its':=by simpa using congrArg Array.toList d1
 subst this
 exact r.inj r'
end
abbrev Cx.wish (X:Cx)(E:Value->Shared->Prop):Cx:={ X with xe:=E }
abbrev Cx.nox (X:Cx):Cx:=X.wish fun _ _=>False
theorem Cx.Ok.wish {X:Cx}(ok:X.Ok)(E:Value->Shared->Prop):(X.wish E).Ok:=
 ⟨ok.mod,ok.kind,ok.glob,ok.blt,ok.above,ok.inj,ok.has,ok.cab,ok.hd,ok.frames,ok.stk,ok.exf,ok.bs,ok.bsz,ok.noex,ok.exfs,ok.funs,ok.frf⟩
theorem Cx.Ok.unwish {X:Cx}{E:Value->Shared->Prop}(ok:(X.wish E).Ok):X.Ok:=
 ⟨ok.mod,ok.kind,ok.glob,ok.blt,ok.above,ok.inj,ok.has,ok.cab,ok.hd,ok.frames,ok.stk,ok.exf,ok.bs,ok.bsz,ok.noex,ok.exfs,ok.funs,ok.frf⟩
section
variable {X:Cx}{pins:List (Addr×Obj)}{σ:St}{H:Hp}{s:Shared}{E:Value->Shared->Prop}
theorem Inv.wish (I:Inv X pins σ H s)(E:Value->Shared->Prop):Inv (X.wish E) pins σ H s:=⟨I.ok.wish E,I.os,I.bare,I.base,I.loc,I.cell,I.free,I.freeC,I.pin,I.hok,I.len⟩
theorem Inv.unwish (I:Inv (X.wish E) pins σ H s):Inv X pins σ H s:=⟨I.ok.unwish,I.os,I.bare,I.base,I.loc,I.cell,I.free,I.freeC,I.pin,I.hok,I.len⟩
theorem SP.unwish {D:Ka}{f:Flow}{s':Shared}(h:SP (X.wish E) pins D f s'):SP X pins D f s':=by
 cases f with
 | next=>obtain⟨σ',H',I,q⟩:=h;exact⟨σ',H',I.unwish,q⟩
 | brk=>obtain⟨σ',H',I,q⟩:=h;exact⟨σ',H',I.unwish,q⟩
 | cont=>obtain⟨σ',H',I,q⟩:=h;exact⟨σ',H',I.unwish,q⟩
 | ret u=>obtain⟨v,σ',H',I,r,q⟩:=h;exact⟨v,σ',H',I.unwish,r,q⟩
theorem PSs.nox {st:List Stmt}{t:TS}(h:PSs X.nox st t):PSs X st t:=fun pins s σ H D I hw=>
 wpAny_mono (h pins s σ H D (I.wish _) hw) (fun _ _ q=>q.unwish) fun _ _ z=>False.elim z
end
section
variable {X:Cx}{st:Stmt}{rest:List Stmt}{t u:TS}{e:Expr}{te:TE}{pos:Pos}
def a88:TS:=fun D σ H=>D.nx σ H
def ai3 (t u:TS):TS:=fun D σ H=>t { D with nx:=u D } σ H
theorem By:PSs X [] a88:=fun _ _ σ H _ I h=>wpAny_execs_nil ⟨σ,H,I,h⟩
theorem A3 (h1:PS X st t) (h2:PSs X rest u):PSs X (st :: rest) (ai3 t u):=by
 intro pins s σ H D I h
 refine wpAny_execs_cons (thn (h1 pins s σ H { D with nx:=u D } I h) fun f s1 q=>?_)
 cases f with
 | next=>
   obtain⟨σ',H',I',q⟩:=q
   exact h2 pins s1 σ' H' D I' q
 | ret v=>exact q
 | brk=>exact q
 | cont=>exact q
theorem A7 (h1:PS X st t):PSs X [st] t:=by
 intro pins s σ H D I h
 refine wpAny_execs_cons (thn (h1 pins s σ H D I h) fun f s1 q=>?_)
 cases f with
 | next=>exact wpAny_execs_nil q
 | ret v=>exact q
 | brk=>exact q
 | cont=>exact q
theorem Inv.quiet {pins:List (Addr×Obj)}{σ:St}{H:Hp}{s:Shared}(I:Inv X pins σ H s):interactive X.env=false:=by simp[interactive,I.ok.kind]
def af3 (te:TE):TS:=fun D σ H=>te σ H fun _ H1=>D.nx σ H1
theorem Ei (he:PE X e te)(hs:swapsWith e none pos.line X.env=pure false:=by ac_nf):PS X (.Expr e pos) (af3 te):=by
 intro pins s σ H D I h
 exact wpAny_Expr_any (thn (he pins s σ H _ I h) fun v s1 ⟨x,H1,I1,r1,q1⟩=>⟨σ,H1,I1,q1⟩) I.quiet hs
def ao3 (te:TE):TS:=fun D σ H=>te σ H D.rt
theorem B6 (he:PE X e te):PS X (.Return (some e) pos) (ao3 te):=by
 intro pins s σ H D I h
 exact wpAny_Return_some (thn (he pins s σ H _ I h) fun v s1 ⟨x,H1,I1,r1,q1⟩=>⟨x,σ,H1,I1,r1,q1⟩)
def am8 (c:TT)(t u:TS):TS:=fun D σ H=>c σ H fun b H1=>if b=true then t D σ H1 else u D σ H1
theorem G8 {c:Expr}{a b:List Stmt}{tc:TT}(hc:PT X c tc)(ha:PSs X a t)(hb:PSs X b u):PS X (.If c a b pos) (am8 tc t u):=by
 intro pins s σ H D I h
 refine wpAny_If (thn (hc pins s σ H _ I h) fun d s1 ⟨H1,I1,q1⟩=>?_)
 cases d with
 | true=>exact ha pins s1 σ H1 D I1 q1
 | false=>exact hb pins s1 σ H1 D I1 q1
end
abbrev TG:=V->St->Hp->(St->Hp->Prop)->Prop
abbrev TGs:=List V->St->Hp->(St->Hp->Prop)->Prop
def PG (X:Cx)(target:Expr)(t:TG):Prop:=
 ∀(pins:List (Addr×Obj)) (s:Shared) (σ:St) (H:Hp) (v:V) (u:Value) (Q:St->Hp->Prop),Inv X pins σ H s->RelV v u->t v σ H Q ->
  wpAny (model X.prog X.w) X.A (assign target X.env u) (fun _ s'=>∃ σ' H',Inv X pins σ' H' s'/\Q σ' H') X.xe s
def PGs (X:Cx)(ts:List Expr)(t:TGs):Prop:=
 ∀(pins:List (Addr×Obj)) (s:Shared) (σ:St) (H:Hp) (vs:List V) (us:List Value) (Q:St->Hp->Prop),Inv X pins σ H s->Vals vs us->t vs σ H Q ->
  wpAny (model X.prog X.w) X.A (assignInOrder ((assignEach ts X.env).map (·.2)) us) (fun _ s'=>∃ σ' H',Inv X pins σ' H' s'/\Q σ' H') X.xe s
section
variable {X:Cx}{pos:Pos}
def Ir (i:Nat):TG:=fun v σ H Q=>Q (σ.set i (some v)) H
theorem A8 {i:Nat}{x:Str}(hN:X.N.Nodup)(hi:X.N[i]? = some x)(hx:Loc X.env.scope x)(hf:X.fn x=true\/X.env.scope.names.lookup x=some .local:=by with_unfolding_all (first | exact .inl rfl | exact .inr rfl | assumption)):PG X (.Name x pos) (Ir i):=by
 intro pins s σ H v u Q I r h
 exact wpAny_assign_Name (Qq I hN hi hx r (fun s' I'=>⟨_,H,I',h⟩) hf)
def ai0:TGs:=fun vs σ H Q=>vs=[]/\Q σ H
def Rm (t:TG)(u:TGs):TGs:=fun vs σ H Q=>∃ v r,vs=v :: r/\t v σ H fun σ' H'=>u r σ' H' Q
theorem J9:PGs X [] ai0:=by
 intro pins s σ H vs us Q I r h
 obtain⟨e,h⟩:=h
 subst e
 cases r
 exact assignInOrder_nil ⟨σ,H,I,h⟩
theorem Db {e:Expr}{es:List Expr}{t:TG}{u:TGs}(h1:PG X e t)(h2:PGs X es u)
  (hs:(assignEach (e :: es) X.env).map (·.2)=assign e X.env :: (assignEach es X.env).map (·.2):=by ac_nf):PGs X (e :: es) (Rm t u):=by
 intro pins s σ H vs us Q I r h
 obtain⟨v,vr,e1,h⟩:=h
 subst e1
 cases r with
 | cons r rr=>
   rw[hs]
   refine assignInOrder_cons (thn (h1 pins s σ H _ _ _ I r h) fun _ s1 ⟨σ1,H1,I1,q1⟩=>?_)
   exact h2 pins s1 σ1 H1 _ _ Q I1 rr q1
def ab6 (K:PySem.W.Frag)(n:Nat)(t:TGs):TG:=fun v σ H Q=>∃ a xs,v = .ref a/\SqT K H a xs/\xs.length=n/\t xs σ H Q
theorem a82 {es:List Expr}{k:Nat}{t:TGs}{n:Nat}(hc:X.calm=true)(h:PGs X es t)
  (hn:(assignEach es X.env).length=n:=by ac_nf) (hst:(assignEach es X.env).findIdx? (·.1)=none:=by ac_nf):PG X (.Tuple es k pos) (ab6 X.K n t):=by
 intro pins s σ H v u Q I r hw
 obtain⟨a,xs,e1,hq,hl,hw⟩:=hw
 subst e1
 cases r
 obtain⟨its,rv,ht,hz⟩:=I.tuple hq
 refine assign_Tuple_tuple (I.ok.hd hc) ht (by simp[hn,<- hl,rv.length]) hst fun h' hx=>?_
 have I1:Inv X pins σ H { s with heap:=h' }:=I.kept (t':=s.toks) fun b o e=>hx b o (Nat.ne_of_lt (Heap.lt_size e)) e
 exact h pins _ σ H xs _ Q I1 (by simpa using rv) hw
def a62 (te:TE)(g:TG):TS:=fun D σ H=>te σ H fun x H1=>g x σ H1 D.nx
theorem Yl {tg e:Expr}{te:TE}{g:TG}(he:PE X e te)(hg:PG X tg g)(hs:swapsWithSole [tg] e pos.line X.env=pure false:=by ac_nf)(hw:swappedStores [tg] e X.env=pure none:=by ac_nf)
  (h1:(assignEach [tg] X.env).map (·.2)=[assign tg X.env]:=by ac_nf):PS X (.Assign [tg] e pos) (a62 te g):=by
 intro pins s σ H D I h
 refine wpAny_Assign_stores (thn (he pins s σ H _ I h) fun v s1 ⟨x,H1,I1,r1,q1⟩=>?_) hs hw
 rw[h1]
 exact thn (hg pins s1 σ H1 x v _ I1 r1 q1) fun _ s2 q=>q
theorem Ab {i:Nat}{x:Str}{e:Expr}{te:TE}{pos':Pos}(hN:X.N.Nodup)(hi:X.N[i]? = some x)(hx:Loc X.env.scope x)(he:PE X e te)(hs:swapsWith e (some (.Name x pos')) pos.line X.env=pure false:=by ac_nf)(hf:X.fn x=true\/X.env.scope.names.lookup x=some .local:=by with_unfolding_all (first | exact .inl rfl | exact .inr rfl | assumption)) :
  PS X (.Assign [.Name x pos'] e pos) (a62 te (Ir i)):=by
 intro pins s σ H D I h
 refine wpAny_Assign_Name (thn (he pins s σ H _ I h) fun v s1 ⟨y,H1,I1,r1,q1⟩=>?_) hs
 exact Qq I1 hN hi hx r1 (fun s2 I2=>⟨_,H1,I2,q1⟩) hf
end
section
variable {X:Cx}{pos:Pos}
end
structure It where
 go:Nat->Hp->Prop
 yld:Nat->Hp->V->Hp->Prop
 stop:Nat->Hp->Prop
def Pu (X:Cx)(pins:List (Addr×Obj))(H:Hp)(b:Addr):Prop:=
 H b=none/\b≠X.env.locals/\b∉X.fs/\(b∈X.ex\/X.s₀.heap.objs.size<=b)/\(∀ x c,X.env.cells.lookup x=some c->c≠b)/\∀ p∈X.pn++pins,p.1≠b
theorem Inv.fpOk {X:Cx}{pins:List (Addr×Obj)}{σ:St}{H H':Hp}{s:Shared}{b:Addr}(I:Inv X pins σ H s)(hb:s.heap.objs.size<=b)(hn:H' b=none):Pu X pins H' b:=by
 refine⟨hn,Nat.ne_of_gt (Nat.lt_of_lt_of_le I.lt hb),I.nofs hb,.inr (Nat.le_trans I.sz hb),fun x c e z=>?_,fun p hp z=>?_⟩
 . obtain⟨v,q⟩:=I.cell x c e
   exact absurd (Nat.lt_of_lt_of_le q.lt (by rw[z];exact hb)) (Nat.lt_irrefl _)
 exact absurd (Nat.lt_of_lt_of_le (Heap.lt_size (I.pin p hp).1) (by rw[z];exact hb)) (Nat.lt_irrefl _)
structure Wo (P:Program)(w:World)(K:PySem.W.Frag)(tg:Expr)(J:It)(fp:List Addr)(it:Addr)(tn:Nat->Heap->Prop):Prop where
 mem:it∈fp
 obj:∀ i h,tn i h->∀ b∈fp,∃ o,h.get? b=some o/\∀ v,o.data ≠ .cell v
 keep:∀ i h h',tn i h->(∀ b∈fp,∀ o,h.get? b=some o->h'.get? b=some o)->tn i h'
 item:∀(X:Cx),X.prog=P->X.w=w->X.K=K->X.calm=true->∀(i:Nat) (pins:List (Addr×Obj)) (s:Shared) (σ:St) (H:Hp) (E:Value->Shared->Prop),Inv X pins σ H s->(∀ b∈fp,Pu X pins H b)->tn i s.heap->J.go i H ->
  wpAny (model P w) X.A (pyNext (.ref it)) (fun r s1=>∃ u,r=some u /\
   wpAny (model P w) X.A (letOwnedTupleGo tg (.ref it) u) (fun _ s2=>∃ x H',Inv X pins σ H' s2/\RelV x u/\J.yld i H x H'/\tn (i+1) s2.heap/\∀ b∈fp,H' b=none) E s1) E s
 done:∀(X:Cx),X.prog=P->X.w=w->X.K=K->X.calm=true->∀(i:Nat) (pins:List (Addr×Obj)) (s:Shared) (σ:St) (H:Hp) (E:Value->Shared->Prop),Inv X pins σ H s->(∀ b∈fp,Pu X pins H b)->tn i s.heap->J.stop i H ->
  wpAny (model P w) X.A (pyNext (.ref it)) (fun r s1=>r=none/\Inv X pins σ H s1) E s
 self:∀(A:Around) (i:Nat) (s:Shared) (Q:Value->Shared->Prop) (E:Value->Shared->Prop),tn i s.heap->Q (.ref it) s->wpAny (model P w) A (pyIter (.ref it)) Q E s
abbrev TI:=St->Hp->(It->Hp->Prop)->Prop
def PIE (X:Cx)(pins:List (Addr×Obj))(σ:St)(tg:Expr)(R:It->Hp->Prop)(itv:Value)(s2:Shared):Prop:=
 ∃(it:Addr) (fp:List Addr) (tn:Nat->Heap->Prop) (J:It) (H':Hp),itv = .ref it/\Inv X pins σ H' s2/\Wo X.prog X.w X.K tg J fp it tn/\tn 0 s2.heap/\(∀ b∈fp,Pu X pins H' b)/\R J H'
def PI (X:Cx)(tg iter:Expr)(wi:TI):Prop:=
 ∀(pins:List (Addr×Obj)) (s:Shared) (σ:St) (H:Hp) (R:It->Hp->Prop),Inv X pins σ H s->wi σ H R ->
  wpAny (model X.prog X.w) X.A (eval iter X.env) (fun v s1=>wpAny (model X.prog X.w) X.A (pyIter v) (PIE X pins σ tg R) X.xe s1) X.xe s
theorem R3 {M:Model}{A:Around}{E:Value->Shared->Prop}{s:Shared}{tg:Expr}{it:Addr}{u:Value}{o:Obj}{n:String}{vs:Array Value}{Q:Unit->Shared->Prop}(ho:s.heap.get? it=some o)(hc:o.cls = .type n)(hd:o.data = .fields vs)
  (hn:["enumerate","zip","dict_itemiterator","dict_reverseitemiterator","odict_iterator","itertools.zip_longest","itertools.pairwise"].contains n=false) (hQ:Q () s):wpAny M A (letOwnedTupleGo tg (.ref it) u) Q E s:=by
 unfold letOwnedTupleGo
 cases tg<;>first
  | exact wpAny_pure hQ
  | (cases u<;>first
    | exact wpAny_pure hQ
    | (refine wpAny_bind (wpAny_load ho ?_)
       rw[hc,hd]
       show wpAny M A (if(["enumerate","zip","dict_itemiterator","dict_reverseitemiterator","odict_iterator","itertools.zip_longest","itertools.pairwise"].contains n&&vs[0]? == some (rawInt _))=true then _ else _) Q E s
       rw[if_neg (by intro h;rw[hn,Bool.false_and] at h;cases h)]
       exact wpAny_pure hQ))
def Itl (K:PySem.W.Frag)(a:Addr):It:=
 ⟨fun i H=>∃ xs x,SqL K H a xs/\xs[i]? = some x,fun i H x H'=>H'=H/\∀ xs,SqL K H a xs->xs[i]? = some x,fun i H=>∃ xs,SqL K H a xs/\xs.length<=i⟩
def Itt (K:PySem.W.Frag)(a:Addr):It:=
 ⟨fun i H=>∃ xs x,SqT K H a xs/\xs[i]? = some x,fun i H x H'=>H'=H/\∀ xs,SqT K H a xs->xs[i]? = some x,fun i H=>∃ xs,SqT K H a xs/\xs.length<=i⟩
def Itr (lo:Int)(n:Nat):It:=⟨fun i _=>i<n,fun i H x H'=>H'=H/\x = .int (lo+i),fun i _=>n<=i⟩
theorem Wj {P:Program}{w:World}{K:PySem.W.Frag}{tg:Expr}(a it:Addr):Wo P w K tg (Itl K a) [it] it (fun i h=>h.IsListIter it a i) where
 mem:=by simp
 obj:=fun i h st b hb=>by
  have e:b=it:=by simpa using hb
  subst e
  obtain⟨o,e,c,d⟩:=st
  exact⟨o,e,fun v z=>by rw[d] at z;cases z⟩
 keep:=fun i h h' st k=>st.at fun o e=>k it (by simp) o e
 item:=by
  intro X hP hw hK hc i pins s σ H E I hf st hg
  subst hP hw hK
  obtain⟨xs,x,hq,hx⟩:=hg
  obtain⟨its,rv,p,hz⟩:=I.list hq
  obtain⟨u,hu,ru⟩:=rv.get hx
  obtain⟨f0,f1,f2,f3,f4,f5⟩:=hf it (by simp)
  refine wpAny_pyNext_list_item st p.isList (x:=u) (by simpa using hu) fun h' st' sb=>?_
  have I1:Inv X pins σ H { s with heap:=h' }:=I.turned (t':=s.toks) (fun b o hb e=>(sb.2 b hb).trans e) f0 f1 f3 f4 f5
  obtain⟨o,e,c,d⟩:=id st'
  exact⟨u,rfl,R3 (s:={ s with heap:=h' }) e c d (by decide) ⟨x,H,I1,ru,⟨rfl,fun ys hy=>by rw[I.list_inj hy hq];exact hx⟩,st',fun b hb=>(hf b hb).1⟩⟩
 done:=by
  intro X hP hw hK hc i pins s σ H E I hf st hg
  subst hP hw hK
  obtain⟨xs,hq,hx⟩:=hg
  obtain⟨its,rv,p,hz⟩:=I.list hq
  obtain⟨f0,f1,f2,f3,f4,f5⟩:=hf it (by simp)
  have hl:=rv.length
  exact wpAny_pyNext_list_end (I.ok.hd hc) st p.isList (by simp;omega) fun h' eb=>⟨rfl,I.turned (t':=s.toks) (fun b o hb e=>eb b o hb e) f0 f1 f3 f4 f5⟩
 self:=fun _ _ _ _ _ st h=>wpAny_pyIter_listiter st h
theorem Rz {P:Program}{w:World}{K:PySem.W.Frag}{tg:Expr}(a it:Addr):Wo P w K tg (Itt K a) [it] it (fun i h=>h.IsTupleIter it a i) where
 mem:=by simp
 obj:=fun i h st b hb=>by
  have e:b=it:=by simpa using hb
  subst e
  obtain⟨o,e,c,d⟩:=st
  exact⟨o,e,fun v z=>by rw[d] at z;cases z⟩
 keep:=fun i h h' st k=>st.at fun o e=>k it (by simp) o e
 item:=by
  intro X hP hw hK hc i pins s σ H E I hf st hg
  subst hP hw hK
  obtain⟨xs,x,hq,hx⟩:=hg
  obtain⟨its,rv,p,hz⟩:=I.tuple hq
  obtain⟨u,hu,ru⟩:=rv.get hx
  obtain⟨f0,f1,f2,f3,f4,f5⟩:=hf it (by simp)
  refine wpAny_pyNext_tuple_item st (show s.heap.IsTuple a its.toArray from p) (x:=u) (by simpa using hu) fun h' st' sb=>?_
  have I1:Inv X pins σ H { s with heap:=h' }:=I.turned (t':=s.toks) (fun b o hb e=>(sb.2 b hb).trans e) f0 f1 f3 f4 f5
  obtain⟨o,e,c,d⟩:=id st'
  exact⟨u,rfl,R3 (s:={ s with heap:=h' }) e c d (by decide) ⟨x,H,I1,ru,⟨rfl,fun ys hy=>by rw[I.tuple_inj hy hq];exact hx⟩,st',fun b hb=>(hf b hb).1⟩⟩
 done:=by
  intro X hP hw hK hc i pins s σ H E I hf st hg
  subst hP hw hK
  obtain⟨xs,hq,hx⟩:=hg
  obtain⟨its,rv,p,hz⟩:=I.tuple hq
  obtain⟨f0,f1,f2,f3,f4,f5⟩:=hf it (by simp)
  have hl:=rv.length
  exact wpAny_pyNext_tuple_end (I.ok.hd hc) st (show s.heap.IsTuple a its.toArray from p) (by simp;omega) fun h' eb=>⟨rfl,I.turned (t':=s.toks) (fun b o hb e=>eb b o hb e) f0 f1 f3 f4 f5⟩
 self:=fun _ _ _ _ _ st h=>wpAny_pyIter_tupleiter st h
theorem R8 {P:Program}{w:World}{K:PySem.W.Frag}{tg:Expr}(it:Addr)(lo:Int)(n:Nat):Wo P w K tg (Itr lo n) [it] it (fun i h=>IsRangeIter h it (lo+(i:Nat)*1) ((n:Int)-(i:Nat)) 1) where
 mem:=by simp
 obj:=fun i h st b hb=>by
  have e:b=it:=by simpa using hb
  subst e
  exact⟨_,st,fun v z=>by
   have z':Data.fields _=Data.cell v:=z
   cases z'⟩
 keep:=fun i h h' st k=>k it (by simp) _ st
 item:=by
  intro X hP hw hK hc i pins s σ H E I hf st hg
  subst hP hw hK
  obtain⟨f0,f1,f2,f3,f4,f5⟩:=hf it (by simp)
  have W:=Walks.range (prog:=X.prog) (w:=X.w) (I.ok.hd hc) it lo 1 n
  refine W.item i s _ _ hg st fun v h' tk hv st' kk=>?_
  obtain⟨t,rfl⟩:=hv
  have I1:Inv X pins σ H { s with heap:=h',toks:=tk }:=I.turned (fun b o hb e=>kk b o (by simpa using hb) e) f0 f1 f3 f4 f5
  refine⟨_,rfl,R3 (s:={ s with heap:=h',toks:=tk }) (n:="range_iterator") st' rfl rfl (by decide) ⟨.int (lo+i),H,I1,⟨t,?_⟩,⟨rfl,rfl⟩,st',fun b hb=>(hf b hb).1⟩⟩
  rw[Int.mul_one]
 done:=by
  intro X hP hw hK hc i pins s σ H E I hf st hg
  subst hP hw hK
  obtain⟨f0,f1,f2,f3,f4,f5⟩:=hf it (by simp)
  exact wpAny_pyNext_range_end (I.ok.hd hc) st (by have:n<=i:=hg;omega) fun h' eb=>⟨rfl,I.turned (t':=s.toks) (fun b o hb e=>eb b o hb e) f0 f1 f3 f4 f5⟩
 self:=fun _ _ _ _ _ st h=>wpAny_pyIter_rangeiter st h
section
variable {X:Cx}{tg:Expr}
theorem Po {pins:List (Addr×Obj)}{σ:St}{H:Hp}{s:Shared}{R:It->Hp->Prop}{E:Value->Shared->Prop}{lo hi:Int}{t u v:Tok}{tk:Nat}(I:Inv X pins σ H s)(h1:-(2 ^ 62)<=lo)(h2:lo<2 ^ 62)(h3:-(2 ^ 62)<=hi)(h4:hi<2 ^ 62)
  (q:R (Itr lo (hi-lo).toNat) H):wpAny (model X.prog X.w) X.A (pyIter (.ref s.heap.objs.size)) (PIE X pins σ tg R) E { s with heap:=s.heap.push { cls:=.type "range",data:=.fields #[.int lo t,.int hi u,.int 1 v] },toks:=tk }:=by
 refine wpAny_pyIter_range (IsRange.new ..) (small_one h1 h2 h3 h4) ?_
 have I1:Inv X pins σ H { s with heap:=s.heap.push { cls:=.type "range",data:=.fields #[.int lo t,.int hi u,.int 1 v] },toks:=tk }:=I.kept fun b o e=>Heap.get?_push_of_some _ e
 refine⟨(s.heap.push { cls:=.type "range",data:=.fields #[.int lo t,.int hi u,.int 1 v] }).objs.size,[(s.heap.push { cls:=.type "range",data:=.fields #[.int lo t,.int hi u,.int 1 v] }).objs.size],_,_,H,rfl,
  I1.kept (t':=tk) fun b o e=>Heap.get?_push_of_some _ e,R8 _ lo (hi-lo).toNat,?_,fun b hb=>?_,q⟩
 . have e1:lo+((0:Nat):Int)*1=lo:=by simp
   have e2:(((hi-lo).toNat:Nat):Int)-((0:Nat):Int)=Builtin.Range.rangeSize lo hi 1:=by rw[rangeSize_one];split<;>omega
   show IsRangeIter _ _ (lo+((0:Nat):Int)*1) ((((hi-lo).toNat:Nat):Int)-((0:Nat):Int)) 1
   rw[e1,e2]
   exact Heap.get?_push_size _ rfl
 have e:b=(s.heap.push { cls:=.type "range",data:=.fields #[.int lo t,.int hi u,.int 1 v] }).objs.size:=by simpa using hb
 subst e
 exact I1.fpOk (Nat.le_refl _) (I1.hok.fresh (Nat.le_refl _))
def ad8 (ta:TA):TI:=fun σ H R=>ta σ H fun vs H1=>∃ j:Int,vs=[.int j] /\ -(2 ^ 62)<=j/\j<2 ^ 62/\R (Itr 0 j.toNat) H1
def ah0 (ta:TA):TI:=fun σ H R=>ta σ H fun vs H1=>∃ i j:Int,vs=[.int i,.int j]/\(-(2 ^ 62)<=i/\i<2 ^ 62 /\ -(2 ^ 62)<=j/\j<2 ^ 62)/\R (Itr i (j-i).toNat) H1
theorem Bz {a:Expr}{ta:TA}{p pos:Pos}(hg:Gl X "range")(hm:X.mg "range" = none)(ha:PA X [a] ta)(hs:starEach [a] X.env=[(false,eval a X.env)]:=by ac_nf):PI X tg (.Call (.Name "range" p) [a] [] pos) (ad8 ta):=by
 intro pins s σ H R I h
 refine Call_ (J8 I hg hm boot_range (PyProof.Rows.callWith_type1 (thn (ha pos pins s σ H _ I h) fun us s1 ⟨vs,H1,I1,r1,q1⟩=>?_) hs rfl))
 obtain⟨j,e,q1,q2,q⟩:=q1
 subst e
 cases r1 with
 | cons r rr=>
   cases rr
   obtain⟨t,rfl⟩:=r
   exact call_range_1 (Po I1 (by omega) (by omega) q1 q2 (by simpa using q))
theorem Uq {a b:Expr}{ta:TA}{p pos:Pos}(hg:Gl X "range")(hm:X.mg "range" = none)(ha:PA X [a,b] ta)(hs:starEach [a,b] X.env=[(false,eval a X.env),(false,eval b X.env)]:=by ac_nf)(hs2:starEach [b] X.env=[(false,eval b X.env)]:=by ac_nf) :
  PI X tg (.Call (.Name "range" p) [a,b] [] pos) (ah0 ta):=by
 intro pins s σ H R I h
 refine Call_ (J8 I hg hm boot_range (PyProof.Rows.callWith_type1 (thn (ha pos pins s σ H _ I h) fun us s1 ⟨vs,H1,I1,r1,q1⟩=>?_) (by rw[hs,hs2]) (by rw[hs2];rfl)))
 obtain⟨i,j,e,⟨q1,q2,q3,q4⟩,q⟩:=q1
 subst e
 cases r1 with
 | cons r rr=>
   cases rr with
   | cons r' rr=>
     cases rr
     obtain⟨t,rfl⟩:=r
     obtain⟨t',rfl⟩:=r'
     exact call_range_2 (Po I1 q1 q2 q3 q4 q)
def am1 (wi:TI)(g:TG)(tb:TS):TS:=fun D σ H=>wi σ H fun J H1=>∃ W:Nat->Nat->St->Hp->Prop,(∃ m,W 0 m σ H1)/\∀ i m σ H,W i m σ H ->
 (J.stop i H/\D.nx σ H)\/(J.go i H/\∃ N:St->Hp->Prop,(∀ σ' H',N σ' H'->∃ m',m'<m/\W (i+1) m' σ' H')/\∀ x H',J.yld i H x H'->g x σ H' fun σ2 H2=>tb { D with nx:=N,ct:=N,bk:=D.nx } σ2 H2)
def Nc (fp:List Addr)(h:Heap):List (Addr×Obj):=fp.filterMap fun b=>(h.get? b).map fun o=>(b,o)
theorem G1 {fp:List Addr}{h:Heap}{b:Addr}{o:Obj}(hb:b∈fp)(e:h.get? b=some o):(b,o)∈Nc fp h:=List.mem_filterMap.mpr ⟨b,hb,by rw[e];rfl⟩
theorem We {fp:List Addr} {h:Heap} {p:Addr×Obj} (hp:p∈Nc fp h):p.1∈fp/\h.get? p.1=some p.2:=by
 obtain⟨b,hb,e⟩:=List.mem_filterMap.mp hp
 cases q:h.get? b with
 | none=>rw[q] at e;cases e
 | some o=>
   rw[q] at e
   have e':(b,o)=p:=Option.some.inj e
   subst e'
   exact⟨hb,q⟩
theorem Inv.pinned {pins:List (Addr×Obj)}{σ:St}{H:Hp}{s:Shared}{fp:List Addr}(I:Inv X pins σ H s)(hf:∀ b∈fp,Pu X pins H b)(ho:∀ b∈fp,∃ o,s.heap.get? b=some o/\∀ v,o.data ≠ .cell v):Inv X (pins++Nc fp s.heap) σ H s:=
 I.pins_of fun p hp=>(List.mem_append.mp hp).elim (fun z=>I.pin p (List.mem_append_right _ z)) fun z=>by
  obtain⟨hb,e⟩:=We z
  obtain⟨f0,f1,f2,_⟩:=hf p.1 hb
  obtain⟨o,e',d⟩:=ho p.1 hb
  rw[e] at e';cases e'
  exact⟨e,f0,f1,f2,d⟩
theorem Inv.unpinned {pins pl:List (Addr×Obj)}{σ:St}{H:Hp}{s:Shared}(I:Inv X (pins++pl) σ H s):Inv X pins σ H s:=I.pins_of fun p hp=>I.pin p (List.mem_append_right _ (List.mem_append_left _ hp))
theorem Bs {iter:Expr}{body:List Stmt}{wi:TI}{g:TG}{tb:TS}{pos:Pos}(hp:PassesOwn (model X.prog X.w) X.A X.env X.xe)(hc:X.calm=true)(hi:PI X tg iter wi)(hg:PG X tg g)(hb:PSs X body tb)
  (hs:∀ x,foldedSetIterable iter X.env x=pure x:=by intro _;ac_nf):PS X (.For tg iter body [] pos) (am1 wi g tb):=by
 intro pins s σ H D I h
 refine wpAny_For (thn (hi pins s σ H _ I h) fun v s1 h1=>thn h1 fun itv s2 h2=>?_) hs
 obtain⟨it,fp,tn,J,H2,e,I2,T,st2,f2,W,⟨m0,w0⟩,turn⟩:=h2
 subst e
 have stat:∀ {H':Hp},(∀ b∈fp,H' b=none)->∀ b∈fp,Pu X pins H' b:=fun hn b hb=>⟨hn b hb,(f2 b hb).2⟩
 refine codeAny_forLoop_any (fun n s'=>∃ i σ' H',Inv X pins σ' H' s'/\tn i s'.heap/\(∀ b∈fp,H' b=none)/\W i n σ' H') ?_ m0 ⟨0,σ,H2,I2,st2,fun b hb=>(f2 b hb).1,w0⟩
 rintro n s3 ⟨i,σ3,H3,I3,st3,fr3,w3⟩
 rcases turn i n σ3 H3 w3 with ⟨stop,qn⟩ | ⟨go,N,hN,step⟩
 . refine wpAny_passesOwn hp (thn (T.done X rfl rfl rfl hc i pins s3 σ3 H3 X.xe I3 (stat fr3) st3 stop) fun r s4 ⟨hr,I4⟩=>?_)
   subst hr
   exact wpAny_execs_nil ⟨σ3,H3,I4,qn⟩
 refine wpAny_passesOwn hp (thn (T.item X rfl rfl rfl hc i pins s3 σ3 H3 X.xe I3 (stat fr3) st3 go) fun r s4 ⟨u,hr,h4⟩=>?_)
 subst hr
 refine wpAny_passesOwn hp (thn h4 fun _ s5 ⟨x,H5,I5,r5,y5,st5,fr5⟩=>?_)
 have I5':=I5.pinned (stat fr5) (T.obj _ _ st5)
 refine wpAny_passesOwn hp (thn (hg _ s5 σ3 H5 x u _ I5' r5 (step x H5 y5)) fun _ s6 ⟨σ6,H6,I6,q6⟩=>?_)
 refine wpAny_passesOwn hp (thn (hb _ s6 σ6 H6 _ I6 q6) fun f s7 q7=>?_)
 have again:∀ {σ7:St} {H7:Hp},Inv X (pins++Nc fp s5.heap) σ7 H7 s7->N σ7 H7->∃ m,m<n/\∃ i σ' H',Inv X pins σ' H' s7/\tn i s7.heap/\(∀ b∈fp,H' b=none)/\W i m σ' H':=fun {σ7 H7} I7 n7=>by
  obtain⟨m',hm,w7⟩:=hN σ7 H7 n7
  refine⟨m',hm,i+1,σ7,H7,I7.unpinned,T.keep _ _ _ st5 fun b hb o e=>(I7.pin (b,o) (List.mem_append_right _ (List.mem_append_right _ (G1 hb e)))).1,fun b hb=>?_,w7⟩
  obtain⟨o,e,d⟩:=T.obj _ _ st5 b hb
  exact(I7.pin (b,o) (List.mem_append_right _ (List.mem_append_right _ (G1 hb e)))).2.1
 cases f with
 | next=>obtain⟨σ7,H7,I7,n7⟩:=q7;exact again I7 n7
 | cont=>obtain⟨σ7,H7,I7,n7⟩:=q7;exact again I7 n7
 | brk=>obtain⟨σ7,H7,I7,q7⟩:=q7;exact⟨σ7,H7,I7.unpinned,q7⟩
 | ret v=>obtain⟨x7,σ7,H7,I7,r7,q7⟩:=q7;exact⟨x7,σ7,H7,I7.unpinned,r7,q7⟩
end
abbrev R2:=V->V->Hp->VK->Prop
def OpR (X:Cx)(f:Value->Value->Sem Value)(r:R2):Prop:=
 ∀(pins:List (Addr×Obj)) (s:Shared) (σ:St) (H:Hp) (x y:V) (v u:Value) (Q:VK),Inv X pins σ H s->RelV x v->RelV y u->r x y H Q ->
  wpAny (model X.prog X.w) X.A (f v u) (EP X pins σ Q) X.xe s
def UnR (X:Cx)(f:Value->Sem Value)(r:V->Hp->VK->Prop):Prop:=
 ∀(pins:List (Addr×Obj)) (s:Shared) (σ:St) (H:Hp) (x:V) (v:Value) (Q:VK),Inv X pins σ H s->RelV x v->r x H Q ->
  wpAny (model X.prog X.w) X.A (f v) (EP X pins σ Q) X.xe s
def CallR (X:Cx)(f:Value)(r:List V->Hp->VK->Prop):Prop:=
 ∀(pins:List (Addr×Obj)) (s:Shared) (σ:St) (H:Hp) (xs:List V) (us:List Value) (Q:VK),Inv X pins σ H s->Vals xs us->r xs H Q ->
  wpAny (model X.prog X.w) X.A (call f us) (EP X pins σ Q) X.xe s
def TruR (X:Cx)(r:V->Hp->(Bool->Hp->Prop)->Prop):Prop:=
 ∀(pins:List (Addr×Obj)) (s:Shared) (σ:St) (H:Hp) (x:V) (v:Value) (Q:Bool->Hp->Prop),Inv X pins σ H s->RelV x v->r x H Q ->
  wpAny (model X.prog X.w) X.A (truthy v) (TP X pins σ Q) X.xe s
def tOp (r:R2)(ta tb:TE):TE:=fun σ H Q=>ta σ H fun x H1=>tb σ H1 fun y H2=>r x y H2 Q
def tUn (r:V->Hp->VK->Prop)(ta:TE):TE:=fun σ H Q=>ta σ H fun x H1=>r x H1 Q
def rI (C:Int->Int->Prop)(g:Int->Int->V):R2:=fun x y H Q=>∃ i j,x = .int i/\y = .int j/\C i j/\Q (g i j) H
def rI0 (g:Int->Int->V):R2:=fun x y H Q=>∃ i j,x = .int i/\y = .int j/\Q (g i j) H
def rU (g:Int->V):V->Hp->VK->Prop:=fun x H Q=>∃ i,x = .int i/\Q (g i) H
section
variable {X:Cx}{a b c:Expr}{ta tb tc:TE}{pos:Pos}
theorem ak9 (ha:PE X a ta)(hb:PE X b tb){pins:List (Addr×Obj)}{s:Shared}{σ:St}{H:Hp}{R:V->V->Hp->Prop}(I:Inv X pins σ H s)
  (h:ta σ H fun x H1=>tb σ H1 fun y H2=>R x y H2) {Q:Value->Shared->Prop} {f:Value->Value->Sem Value}
  (hf:∀ v u s2 x y H2,Inv X pins σ H2 s2->RelV x v->RelV y u->R x y H2->wpAny (model X.prog X.w) X.A (f v u) Q X.xe s2) :
  wpAny (model X.prog X.w) X.A (eval a X.env) (fun v s₁=>wpAny (model X.prog X.w) X.A (eval b X.env) (fun u s₂=>wpAny (model X.prog X.w) X.A (f v u) Q X.xe s₂) X.xe s₁) X.xe s:=by
 refine thn (ha pins s σ H _ I h) fun v s1 ⟨x,H1,I1,r1,q1⟩=>?_
 refine thn (hb pins s1 σ H1 _ I1 q1) fun u s2 ⟨y,H2,I2,r2,q2⟩=>?_
 exact hf v u s2 x y H2 I2 r1 r2 q2
theorem Ag {op:Operator}{r:R2}(ho:OpR X (binaryOp op) r)(ha:PE X a ta)(hb:PE X b tb):PE X (.BinOp a op b pos) (tOp r ta tb):=by
 intro pins s σ H Q I h
 exact wpAny_BinOp (ak9 ha hb I h fun v u s2 x y H2 I2 rx ry q=>ho pins s2 σ H2 x y v u Q I2 rx ry q)
theorem al2 {op:UnaryOp}{r:V->Hp->VK->Prop}(ho:UnR X (unaryOp op) r)(ha:PE X a ta):PE X (.UnaryOp op a pos) (tUn r ta):=by
 intro pins s σ H Q I h
 exact UnaryOp_ (thn (ha pins s σ H _ I h) fun v s1 ⟨x,H1,I1,r1,q1⟩=>ho pins s1 σ H1 x v Q I1 r1 q1)
theorem opI {f:Value->Value->Sem Value}{C:Int->Int->Prop}{g:Int->Int->Int}
  (rule:∀(i j:Int) (t u:Tok) (s:Shared) (Q:Value->Shared->Prop) (E:Value->Shared->Prop),C i j->Q (.int (g i j) s.toks) { s with toks:=s.toks+1 }->wpAny (model X.prog X.w) X.A (f (.int i t) (.int j u)) Q E s) :
  OpR X f (rI C fun i j=>.int (g i j)):=by
 intro pins s σ H x y v u Q I rx ry h
 obtain⟨i,j,rfl,rfl,hc,q⟩:=h
 obtain⟨t,rfl⟩:=rx
 obtain⟨t',rfl⟩:=ry
 exact rule i j t t' s _ _ hc ⟨.int (g i j),H,I.tok _,⟨_,rfl⟩,q⟩
theorem ak8 {f:Value->Value->Sem Value}{g:Int->Int->Int}
  (rule:∀(i j:Int) (t u:Tok) (s:Shared) (Q:Value->Shared->Prop) (E:Value->Shared->Prop),Q (.int (g i j) s.toks) { s with toks:=s.toks+1 }->wpAny (model X.prog X.w) X.A (f (.int i t) (.int j u)) Q E s) :
  OpR X f (rI0 fun i j=>.int (g i j)):=by
 intro pins s σ H x y v u Q I rx ry h
 obtain⟨i,j,rfl,rfl,q⟩:=h
 obtain⟨t,rfl⟩:=rx
 obtain⟨t',rfl⟩:=ry
 exact rule i j t t' s _ _ ⟨.int (g i j),H,I.tok _,⟨_,rfl⟩,q⟩
theorem an7 {f:Value->Value->Sem Value}{g:Int->Int->Bool}
  (rule:∀(i j:Int) (t u:Tok) (s:Shared) (Q:Value->Shared->Prop) (E:Value->Shared->Prop),Q (.bool (g i j)) s->wpAny (model X.prog X.w) X.A (f (.int i t) (.int j u)) Q E s) :
  OpR X f (rI0 fun i j=>.bl (g i j)):=by
 intro pins s σ H x y v u Q I rx ry h
 obtain⟨i,j,rfl,rfl,q⟩:=h
 obtain⟨t,rfl⟩:=rx
 obtain⟨t',rfl⟩:=ry
 exact rule i j t t' s _ _ ⟨.bl (g i j),H,I,rfl,q⟩
def aj6 (i j:Int):Prop:=0<j/\j<1073741824
def al4 (i j:Int):Prop:=0<=j/\j<=1000000/\i.natAbs<2 ^ 64
def CMul (i j:Int):Prop:=(-(2 ^ 64)<i/\i<2 ^ 64)\/(-(2 ^ 64)<j/\j<2 ^ 64)
theorem CMul.ok {i j:Int}(h:CMul i j):IntMulOk i j:=by
 rcases h with ⟨h1,h2⟩ | ⟨h1,h2⟩
 . exact .of_left (intBits_le_64 h1 h2)
 exact .of_right (intBits_le_64 h1 h2)
theorem op_add:OpR X (binaryOp .Add) (rI0 fun i j=>.int (i+j)):=ak8 fun _ _ _ _ _ _ _ q=>add_int q
theorem Gp:OpR X (binaryOp .Sub) (rI0 fun i j=>.int (i-j)):=ak8 fun _ _ _ _ _ _ _ q=>sub_int q
theorem op_mul:OpR X (binaryOp .Mult) (rI CMul fun i j=>.int (i*j)):=opI fun _ _ _ _ _ _ _ hc q=>mul_int q hc.ok
theorem a39:OpR X (binaryOp .FloorDiv) (rI aj6 fun i j=>.int (i / j)):=opI fun i j _ _ _ _ _ hc q=>by
 have h1:(0:Int)<j:=hc.1
 have h2:j<1073741824:=hc.2
 exact floordiv_int (by omega) (by rw[Int.fdiv_eq_ediv_of_nonneg i (by omega)];exact q) (.inl (PyProof.noPylong_small (by omega)))
theorem Hx:OpR X (binaryOp .Mod) (rI (fun _ j=>0<j) fun i j=>.int (i % j)):=opI fun i j _ _ _ _ _ hc q=>by
 have h1:(0:Int)<j:=hc
 exact mod_int' (by omega) (by rw[Int.fmod_eq_emod_of_nonneg i (by omega)];exact q)
theorem ab5:OpR X (binaryOp .Pow) (rI al4 fun i j=>.int (i ^ j.toNat)):=opI fun _ _ _ _ _ _ _ hc q=>pow_int_small hc.1 hc.2.1 hc.2.2 q
theorem Tl:OpR X (binaryOp .BitAnd) (rI0 fun i j=>.int (Builtin.bitAnd i j)):=ak8 fun _ _ _ _ _ _ _ q=>and_int q
theorem unI {f:Value->Sem Value}{g:Int->Int}
  (rule:∀(i:Int) (t:Tok) (s:Shared) (Q:Value->Shared->Prop) (E:Value->Shared->Prop),Q (.int (g i) s.toks) { s with toks:=s.toks+1 }->wpAny (model X.prog X.w) X.A (f (.int i t)) Q E s) :
  UnR X f (rU fun i=>.int (g i)):=by
 intro pins s σ H x v Q I rx h
 obtain⟨i,rfl,q⟩:=h
 obtain⟨t,rfl⟩:=rx
 exact rule i t s _ _ ⟨.int (g i),H,I.tok _,⟨_,rfl⟩,q⟩
theorem a96:UnR X (unaryOp .USub) (rU fun i=>.int (-i)):=unI fun _ _ _ _ _ q=>neg_int q
end
def ai2:V->V->Bool
 | .non,.non=>true | .non,.int _=>true | .int _,.non=>true | .non,.bl _=>true | .bl _,.non=>true | .non,.str _=>true | .str _,.non=>true
 | .int _,.int _=>true | .bl _,.bl _=>true | .str _,.str _=>true | .byt _,.byt _=>true
 | .int _,.str _=>true | .str _,.int _=>true | .bl _,.str _=>true | .str _,.bl _=>true
 | _,_=>false
def rEq:R2:=fun x y H Q=>ai2 x y=true/\Q (.bl (decide (x=y))) H
def rNe:R2:=fun x y H Q=>ai2 x y=true/\Q (.bl (!decide (x=y))) H
theorem Vq {i j:Int}:decide (V.int i=V.int j)=(i==j):=by
 rw[Bool.eq_iff_iff]
 simp
theorem Yq {i j:Bool}:decide (V.bl i=V.bl j)=(i==j):=by
 rw[Bool.eq_iff_iff]
 simp
theorem T0 {i j:Str}:decide (V.str i=V.str j)=(i==j):=by
 rw[Bool.eq_iff_iff]
 simp
theorem Se {i j:Array UInt8}:decide (V.byt i=V.byt j)=(i.toList==j.toList):=by
 rw[Bool.eq_iff_iff]
 cases i
 cases j
 simp
section
variable {X:Cx}{a b c:Expr}{ta tb tc:TE}{pos:Pos}
theorem Az {pins:List (Addr×Obj)}{σ:St}{H:Hp}{s:Shared}{Q:VK}{k k':Bool}(I:Inv X pins σ H s)(q:Q (.bl k) H)(e:k=k'):EP X pins σ Q (.bool k') s:=by
 subst e
 exact⟨.bl k,H,I,rfl,q⟩
theorem op_eq:OpR X (compareOp .Eq) rEq:=by
 intro pins s σ H x y v u Q I rx ry h
 obtain⟨hs,q⟩:=h
 cases x with
 | non=>
   cases rx
   cases y with
   | non=>cases ry;exact PySem.EqNone.eq_none_none (Az I q (by simp))
   | bl j=>cases ry;exact PySem.EqNone.eq_none_bool (Az I q (by simp))
   | int j=>obtain⟨t',rfl⟩:=ry;exact PySem.EqNone.eq_none_int (Az I q (by simp))
   | str j=>obtain⟨t',rfl⟩:=ry;exact PySem.EqNone.eq_none_str (Az I q (by simp))
   | _=>exact absurd (show false=true from hs) Bool.false_ne_true
 | bl i=>
   cases rx
   cases y with
   | non=>cases ry;exact PySem.EqNone.eq_bool_none (Az I q (by simp))
   | bl j=>cases ry;exact eq_bool (Az I q Yq)
   | str j=>obtain⟨t',rfl⟩:=ry;exact PySem.EqMixed.eq_bool_str (Az I q (by simp))
   | _=>exact absurd (show false=true from hs) Bool.false_ne_true
 | int i=>
   obtain⟨t,rfl⟩:=rx
   cases y with
   | non=>cases ry;exact PySem.EqNone.eq_int_none (Az I q (by simp))
   | int j=>obtain⟨t',rfl⟩:=ry;exact eq_int (Az I q Vq)
   | str j=>obtain⟨t',rfl⟩:=ry;exact PySem.EqMixed.eq_int_str (Az I q (by simp))
   | _=>exact absurd (show false=true from hs) Bool.false_ne_true
 | str i=>
   obtain⟨t,rfl⟩:=rx
   cases y with
   | non=>cases ry;exact PySem.EqNone.eq_str_none (Az I q (by simp))
   | bl j=>cases ry;exact PySem.EqMixed.eq_str_bool (Az I q (by simp))
   | int j=>obtain⟨t',rfl⟩:=ry;exact PySem.EqMixed.eq_str_int (Az I q (by simp))
   | str j=>obtain⟨t',rfl⟩:=ry;exact eq_str (Az I q T0)
   | _=>exact absurd (show false=true from hs) Bool.false_ne_true
 | byt i=>
   obtain⟨t,rfl⟩:=rx
   cases y with
   | byt j=>obtain⟨t',rfl⟩:=ry;exact PySem.W.eq_bytes (Az I q Se)
   | _=>exact absurd (show false=true from hs) Bool.false_ne_true
 | _=>cases y<;>exact absurd (show false=true from hs) Bool.false_ne_true
theorem op_ne:OpR X (compareOp .NotEq) rNe:=by
 intro pins s σ H x y v u Q I rx ry h
 obtain⟨hs,q⟩:=h
 cases x with
 | non=>
   cases rx
   cases y with
   | non=>cases ry;exact PySem.EqNone.ne_none_none (Az I q (by simp))
   | bl j=>cases ry;exact PySem.EqNone.ne_none_bool (Az I q (by simp))
   | int j=>obtain⟨t',rfl⟩:=ry;exact PySem.EqNone.ne_none_int (Az I q (by simp))
   | str j=>obtain⟨t',rfl⟩:=ry;exact PySem.EqNone.ne_none_str (Az I q (by simp))
   | _=>exact absurd (show false=true from hs) Bool.false_ne_true
 | bl i=>
   cases rx
   cases y with
   | non=>cases ry;exact PySem.EqNone.ne_bool_none (Az I q (by simp))
   | bl j=>cases ry;exact ne_bool (Az I q (congrArg not Yq))
   | str j=>obtain⟨t',rfl⟩:=ry;exact PySem.EqMixed.ne_bool_str (Az I q (by simp))
   | _=>exact absurd (show false=true from hs) Bool.false_ne_true
 | int i=>
   obtain⟨t,rfl⟩:=rx
   cases y with
   | non=>cases ry;exact PySem.EqNone.ne_int_none (Az I q (by simp))
   | int j=>obtain⟨t',rfl⟩:=ry;exact ne_int (Az I q (congrArg not Vq))
   | str j=>obtain⟨t',rfl⟩:=ry;exact PySem.EqMixed.ne_int_str (Az I q (by simp))
   | _=>exact absurd (show false=true from hs) Bool.false_ne_true
 | str i=>
   obtain⟨t,rfl⟩:=rx
   cases y with
   | non=>cases ry;exact PySem.EqNone.ne_str_none (Az I q (by simp))
   | bl j=>cases ry;exact PySem.EqMixed.ne_str_bool (Az I q (by simp))
   | int j=>obtain⟨t',rfl⟩:=ry;exact PySem.EqMixed.ne_str_int (Az I q (by simp))
   | str j=>obtain⟨t',rfl⟩:=ry;exact ne_str (Az I q (congrArg not T0))
   | _=>exact absurd (show false=true from hs) Bool.false_ne_true
 | byt i=>
   obtain⟨t,rfl⟩:=rx
   cases y with
   | byt j=>obtain⟨t',rfl⟩:=ry;exact PySem.W.ne_bytes (Az I q (congrArg not Se))
   | _=>exact absurd (show false=true from hs) Bool.false_ne_true
 | _=>cases y<;>exact absurd (show false=true from hs) Bool.false_ne_true
theorem a48:OpR X (compareOp .Lt) (rI0 fun i j=>.bl (decide (i<j))):=an7 fun _ _ _ _ _ _ _ q=>lt_int q
theorem a05:OpR X (compareOp .Gt) (rI0 fun i j=>.bl (decide (j<i))):=an7 fun _ _ _ _ _ _ _ q=>gt_int q
theorem op_in_str:OpR X (compareOp .In) (fun x y H Q=>∃ i j,x = .str i/\y = .str j/\Q (.bl (!(Builtin.Str.occurrences j i 0 j.length 1).isEmpty)) H):=by
 intro pins s σ H x y v u Q I rx ry h
 obtain⟨i,j,rfl,rfl,q⟩:=h
 obtain⟨t,rfl⟩:=rx
 obtain⟨t',rfl⟩:=ry
 exact in_str (Az I q rfl)
theorem ab8:OpR X (compareOp .Is) (fun x y H Q=>y = .non/\Q (.bl (decide (x = .non))) H):=by
 intro pins s σ H x y v u Q I rx ry h
 obtain⟨rfl,q⟩:=h
 cases ry
 refine is_none_gen (Az I q ?_)
 cases x<;>first
  | (cases rx;rfl)
  | (obtain⟨t,rfl⟩:=rx;rfl)
theorem OpR.or {f:Value->Value->Sem Value}{r r':R2}(h:OpR X f r)(h':OpR X f r'):OpR X f (fun x y H Q=>r x y H Q\/r' x y H Q):=by
 intro pins s σ H x y v u Q I rx ry q
 rcases q with q | q
 . exact h pins s σ H x y v u Q I rx ry q
 exact h' pins s σ H x y v u Q I rx ry q
theorem Bx (b:Expr){op:CmpOp}(h:op ≠ .In:=by decide)(h2:op ≠ .NotIn:=by decide):behindInMarks op b=false:=by
 have e1:(op==CmpOp.In)=false:=by cases op<;>first | rfl | exact absurd rfl h
 have e2:(op==CmpOp.NotIn)=false:=by cases op<;>first | rfl | exact absurd rfl h2
 cases b<;>simp[behindInMarks,e1,e2]
theorem Hn {op:CmpOp}{r:R2}(ho:OpR X (compareOp op) r)(ha:PE X a ta)(hb:PE X b tb)(hm:behindInMarks op b=false):PE X (.Compare a [op] [b] pos) (tOp r ta tb):=by
 intro pins s σ H Q I h
 exact wpAny_Compare1 (ak9 ha hb I h fun v u s2 x y H2 I2 rx ry q=>ho pins s2 σ H2 x y v u Q I2 rx ry q) hm
def ab4 (t:TE):TT:=fun σ H Q=>t σ H fun x H'=>∃ k,x = .bl k/\Q k H'
theorem Ar {op:CmpOp}{r:R2}(ho:OpR X (compareOp op) r)(ha:PE X a ta)(hb:PE X b tb)(hm:behindInMarks op b=false):PT X (.Compare a [op] [b] pos) (ab4 (tOp r ta tb)):=by
 intro pins s σ H Q I h
 refine wpAny_isTrue_Compare1 (thn (ha pins s σ H _ I h) fun v s1 ⟨x,H1,I1,r1,q1⟩=>thn (hb pins s1 σ H1 _ I1 q1) fun u s2 ⟨y,H2,I2,r2,q2⟩=>
  thn (ho pins s2 σ H2 x y v u _ I2 r1 r2 q2) fun c s3 ⟨z,H3,I3,r3,k,e,q3⟩=>?_) hm
 subst e
 cases r3
 exact wpAny_truthy_bool ⟨H3,I3,q3⟩
def TruV (K:PySem.W.Frag)(x:V)(H:Hp)(k:Bool):Prop:=
 match x with
 | .non=>k=false
 | .bl b=>k=b
 | .int i=>k=(i != 0)
 | .str y=>y.length<=sizeLine/\k=((y.length:Int) != 0)
 | .byt y=>y.size<=sizeLine/\k=((y.size:Int) != 0)
 | .ref p=>(∃ xs,SqL K H p xs/\k = !xs.isEmpty)\/(∃ xs,SqT K H p xs/\k = !xs.isEmpty)\/∃ kvs,H p=some (.dK kvs)/\k = !kvs.isEmpty
 | _=>False
theorem Rw {κ:Type}{kvs:List (κ×V)}{vs:List (κ×Value)}(r:KV kvs vs):(!vs.isEmpty) = !kvs.isEmpty:=by
 cases r<;>rfl
theorem Kd {xs:List V}{its:List Value}(r:Vals xs its):(!its.toArray.isEmpty) = !xs.isEmpty:=by
 cases r<;>simp
theorem Iw:(sizeLine:Nat)<2 ^ 63:=by rw[sizeLine_eq];decide
theorem a87:TruR X (fun x H Q=>∃ k,TruV X.K x H k/\Q k H):=by
 intro pins s σ H x v Q I rx h
 obtain ⟨k,e,q⟩:=h
 have hl:=Iw
 have hs:sizeLine=16777216:=sizeLine_eq
 cases x with
 | non=>
   cases rx
   have e':k=false:=e
   subst e'
   exact truthy_none ⟨H,I,q⟩
 | bl b=>
   cases rx
   have e':k=b:=e
   subst e'
   exact wpAny_truthy_bool ⟨H,I,q⟩
 | int i=>
   obtain⟨t,rfl⟩:=rx
   have e':k=(i != 0):=e
   subst e'
   exact PySem.P.truthy_int ⟨H,I,q⟩
 | str y=>
   obtain⟨t,rfl⟩:=rx
   obtain⟨hy,e'⟩:y.length<=sizeLine/\k=((y.length:Int) != 0):=e
   subst e'
   exact PySem.P.truthy_str (by omega) ⟨H,I.tok _,q⟩
 | byt y=>
   obtain⟨t,rfl⟩:=rx
   obtain⟨hy,e'⟩:y.size<=sizeLine/\k=((y.size:Int) != 0):=e
   subst e'
   exact PySem.W.truthy_bytes (by omega) ⟨H,I.tok _,q⟩
 | ref p=>
   cases rx
   have e':(∃ xs,SqL X.K H p xs/\k = !xs.isEmpty)\/(∃ xs,SqT X.K H p xs/\k = !xs.isEmpty)\/∃ kvs,H p=some (.dK kvs)/\k = !kvs.isEmpty:=e
   rcases e' with ⟨xs,hx,e'⟩ | ⟨xs,hx,e'⟩ | ⟨kvs,hx,e'⟩
   . subst e'
     obtain⟨its,r,pl,hz⟩:=I.list hx
     have hlen:=r.length
     exact wpAny_truthy_list pl.isList (by simp only[List.size_toArray];omega) ⟨H,I.tok _,by rw[Kd r];exact q⟩
   . subst e'
     obtain⟨its,r,pl,hz⟩:=I.tuple hx
     have hlen:=r.length
     exact truthy_tuple pl (by simp only[List.size_toArray];omega) ⟨H,I.tok _,by rw[Kd r];exact q⟩
   subst e'
   obtain⟨hz,hS,vs,r,m⟩:kvs.length<=sizeLine/\(p==sysModules)=false/\∃ vs,KV kvs vs/\s.heap.DictOf (Ap X.prog X.w) p vs:=I.hok p _ hx
   have hlen:kvs.length=vs.length:=Paired.length r
   exact wpAny_truthy_dict hS m (by omega) ⟨H,I.tok _,by rw[Rw r];exact q⟩
 | _=>exact(show False from e).elim
theorem op_add_str:OpR X (binaryOp .Add) (fun x y H Q=>∃ i j,x = .str i/\y = .str j/\i.length+j.length<=sizeLine/\Q (.str (i++j)) H):=by
 intro pins s σ H x y v u Q I rx ry h
 obtain⟨i,j,rfl,rfl,hz,q⟩:=h
 obtain⟨t,rfl⟩:=rx
 obtain⟨t',rfl⟩:=ry
 exact add_str (fun t' tk=>⟨.str (i++j),H,I.tok _,⟨_,rfl⟩,q⟩) hz
theorem Gi {x:V}{us:List Value}(r:Vals [x] us):∃ u,us=[u]/\RelV x u:=by
 cases r with
 | cons r1 r2=>cases r2;exact⟨_,rfl,r1⟩
theorem ac3 {x y:V}{us:List Value}(r:Vals [x,y] us):∃ u w',us=[u,w']/\RelV x u/\RelV y w':=by
 cases r with
 | cons r1 r2=>
   cases r2 with
   | cons r3 r4=>cases r4;exact⟨_,_,rfl,r1,r3⟩
theorem Sc (hc:X.calm=true):CallR X (.builtin "max") (fun xs H Q=>∃ i j,xs=[.int i,.int j]/\Q (.int (if j>i then j else i)) H):=by
 intro pins s σ H xs us Q I r h
 obtain⟨i,j,rfl,q⟩:=h
 obtain⟨u,w',rfl,⟨t,rfl⟩,⟨t',rfl⟩⟩:=ac3 r
 refine max_two_ints (I.ok.hd hc) fun h' tk k=>⟨_,H,I.kept k,?_,q⟩
 by_cases hj:j>i
 . rw[if_pos hj,if_pos hj];exact⟨_,rfl⟩
 rw[if_neg hj,if_neg hj];exact⟨_,rfl⟩
theorem Uf (hc:X.calm=true):CallR X (.builtin "min") (fun xs H Q=>∃ i j,xs=[.int i,.int j]/\Q (.int (if j<i then j else i)) H):=by
 intro pins s σ H xs us Q I r h
 obtain⟨i,j,rfl,q⟩:=h
 obtain⟨u,w',rfl,⟨t,rfl⟩,⟨t',rfl⟩⟩:=ac3 r
 refine min_two_ints (I.ok.hd hc) fun h' tk k=>⟨_,H,I.kept k,?_,q⟩
 by_cases hj:j<i
 . rw[if_pos hj,if_pos hj];exact⟨_,rfl⟩
 rw[if_neg hj,if_neg hj];exact⟨_,rfl⟩
theorem W3:CallR X (.type "int") (fun xs H Q=>(∃ i,xs=[.int i]/\Q (.int i) H)\/∃ k,xs=[.bl k]/\Q (.int (if k then 1 else 0)) H):=by
 intro pins s σ H xs us Q I r h
 rcases h with ⟨i,rfl,q⟩ | ⟨k,rfl,q⟩
 . obtain⟨u,rfl,t,rfl⟩:=Gi r
   exact call_int_int ⟨.int i,H,I,⟨_,rfl⟩,q⟩
 obtain⟨u,rfl,r1⟩:=Gi r
 cases r1
 exact call_int_bool ⟨.int (if k then 1 else 0),H,I.tok _,⟨_,rfl⟩,q⟩
def ao0 (K:PySem.W.Frag)(x:V)(H:Hp)(n:Nat):Prop:=
 match x with
 | .str y=>y.length<=sizeLine/\n=y.length
 | .byt y=>y.size<=sizeLine/\n=y.size
 | .ref p=>(∃ xs,SqL K H p xs/\n=xs.length)\/∃ xs,SqT K H p xs/\n=xs.length
 | _=>False
theorem call_len:CallR X (.builtin "len") (fun xs H Q=>∃ x n,xs=[x]/\ao0 X.K x H n/\Q (.int n) H):=by
 intro pins s σ H xs us Q I r h
 obtain⟨x,n,rfl,e,q⟩:=h
 obtain ⟨u,rfl,rx⟩:=Gi r
 have hl:=Iw
 have hs:sizeLine=16777216:=sizeLine_eq
 cases x with
 | str y=>
   obtain⟨t,rfl⟩:=rx
   obtain⟨hy,e'⟩:y.length<=sizeLine/\n=y.length:=e
   subst e'
   exact len_str (by omega) ⟨.int _,H,I.tok _,⟨_,rfl⟩,q⟩
 | byt y=>
   obtain⟨t,rfl⟩:=rx
   obtain⟨hy,e'⟩:y.size<=sizeLine/\n=y.size:=e
   subst e'
   exact PySem.W.len_bytes (by omega) ⟨.int _,H,I.tok _,⟨_,rfl⟩,q⟩
 | ref p=>
   cases rx
   have e':(∃ xs,SqL X.K H p xs/\n=xs.length)\/∃ xs,SqT X.K H p xs/\n=xs.length:=e
   rcases e' with ⟨xs,hx,e'⟩ | ⟨xs,hx,e'⟩
   . subst e'
     obtain⟨its,r',pl,hz⟩:=I.list hx
     have hlen:=r'.length
     exact Calls.call_len_list pl.isList (by simp only[List.size_toArray];omega) ⟨.int xs.length,H,I.tok _,⟨_,by simp only[List.size_toArray];rw[hlen]⟩,q⟩
   subst e'
   obtain⟨its,r',pl,hz⟩:=I.tuple hx
   have hlen:=r'.length
   exact len_tuple pl (by simp only[List.size_toArray];omega) ⟨.int xs.length,H,I.tok _,⟨_,by simp only[List.size_toArray];rw[hlen]⟩,q⟩
 | _=>exact(show False from e).elim
end
structure ObjM (h:Heap)(x dx C:Addr)(mA:Str->Option Value):Prop where
 obj:h.get? x=some (PySem.W.instObj C dx)
 ns:h.Ns1 dx mA
 ne:dx≠x
theorem T8 {h:Heap}{dx:Addr}{mA:Str->Option Value}(n:h.Ns1 dx mA):∃ od,h.get? dx=some od/\∀ name,PySem.W.lookIn name od=some (mA name):=by
 obtain⟨o,es,ep,ho,hd,hk,_,hm⟩:=n
 refine⟨o,ho,fun name=>?_⟩
 have e:=hm name
 unfold nsFind findBy at e
 rw[<- Array.find?_toList] at e
 unfold PySem.W.lookIn
 rw[hd]
 dsimp only
 split
 . rename_i y q
   rw[q] at e
   exact congrArg some e
 rename_i q
 rw[q] at e
 have a:es.toList.any (·.refKey)=false:=by
  rw[List.any_eq_false]
  intro y hy
  obtain⟨z,t,hkey⟩:=hk y (Array.mem_toList_iff.mp hy)
  simp[DictEntry.refKey,hkey]
 have a':¬ es.toList.any (·.refKey)=true:=by rw[a];exact Bool.false_ne_true
 rw[if_neg a']
 exact congrArg some e
theorem ObjM.look {h:Heap}{x dx C:Addr}{mA:Str->Option Value}(I:ObjM h x dx C mA):∃ od,PySem.W.InstAt h x (PySem.W.instObj C dx) C (some od)/\∀ name,PySem.W.lookIn name od=some (mA name):=
 let ⟨od,ho,hl⟩:=T8 I.ns
 ⟨od,⟨I.obj,rfl,rfl,ho⟩,hl⟩
section
variable {prog:Program}{w:World}{A:Around}{E:Value->Shared->Prop}{s:Shared}{K:PySem.W.Frag}{x dx C f:Addr}{mA:Str->Option Value}{name:Str}{v:Value}
theorem Zt {expr:Bool}{Q:Value->Shared->Prop}(X:K.In s.heap)(I:ObjM s.heap x dx C mA)(hg:PySem.W.plainGet K C name=true)(hh:PySem.W.hasDictIn K C=true)
  (ha:PySem.W.findIn K (.ref C) name=some none) (hv:mA name=some v) (hv':PySem.W.handedIn v=true) (h:Q v { s with toks:=s.toks+1 }) :
  wpAny (model prog w) A (getAttr (.ref x) name expr) Q E s:=by
 obtain⟨od,J,hl⟩:=I.look
 exact PySem.W.get_value X J (PySem.W.plainGet_of hg).1 (PySem.W.findObj_own hh ha rfl (by rw[hl,hv])) hv' h
theorem Wz {pl:Sem Bool}{Q:Value×List Value->Shared->Prop}(X:K.In s.heap)(I:ObjM s.heap x dx C mA)(hg:PySem.W.plainGet K C name=true)
  (hf:PySem.W.findIn K (.ref C) name=some (some (.ref f))) (ht:PySem.W.isFn K (.ref f)=true) (hv:mA name=none) (h:Q (.ref f,[.ref x]) s) :
  wpAny (model prog w) A (getMethod (.ref x) name pl) Q E s:=by
 obtain⟨od,J,hl⟩:=I.look
 exact PySem.W.method_fn X J (PySem.W.plainGet_of hg).1 (PySem.W.plainGet_of hg).2 hf (beq_iff_eq.mp ht) (by show(PySem.W.lookIn name od).map (·.isSome)=some false;rw[hl,hv];rfl) h
theorem a50 {ns:List Str}{Q:Unit->Shared->Prop}(X:K.In s.heap)(I:ObjM s.heap x dx C mA)
  (hs:PySem.W.findIn K (.ref C) "__setattr__" = some (some (.builtin "object.__setattr__"))) (hp:PySem.W.plainOver K C=true) (ht:PySem.W.takerIn K C name=some none) (hh:PySem.W.hasDictIn K C=true)
  (hw:PySem.Within mA ns) (hsz:ns.length<=sizeLine)
  (h:∀ h',ObjM h' x dx C (fun y=>if y=name then some v else mA y)->Heap.SameBut dx s.heap h'->Q () { s with heap:=h',toks:=s.toks+2 }) :
  wpAny (model prog w) A (setAttr (.ref x) name v) Q E s:=by
 obtain⟨od,J,hl⟩:=I.look
 refine PySem.W.set_plain X J hs (PySem.W.osa_open (s:={ s with toks:=s.toks+1 }) (r:=none) X J hp ht fun b=>?_)
 obtain⟨cd,hc,hd'⟩:=PySem.W.any_some hh
 have hx:s.heap.get? x=some ⟨.ref C,some dx,.plain,#[]⟩:=I.obj
 refine wpAny_bind (wpAny_pure (wpAny_bind (wpAny_bind (wpAny_loadPart hx (wpAny_bind (PySem.W.Looks.here (s:={ s with toks:=s.toks+1 }) (PySem.W.looks_clsIn X hc) ?_))))))
 rw[hd']
 refine wpAny_pure (a:=some dx) (wpAny_bind (wpAny_pure (wpAny_bind ?_)))
 refine wpAny_nsSet1 (s:={ s with toks:=s.toks+1 }) I.ns fun h' hn2 hs2=>?_
 obtain⟨oD,esD,epD,hoD,hdD,hcD⟩:=hn2.count (PySem.Within.cons name v hw)
 refine wpAny_bind (wpAny_lookBehind hoD (by rw[hdD];exact pastItsLine_dict (Nat.le_trans hcD (by rw[List.length_cons];omega))) ?_)
 exact wpAny_pure (h _ ⟨(hs2.2 _ (Ne.symm I.ne)).trans I.obj,hn2,I.ne⟩ hs2)
theorem Xf {R:Result->Shared->Prop}{vs:List Value}{kw:List (Str×Value)}(X:K.In s.heap)(hm:PySem.W.makesIn K C=true)
  (hi:PySem.W.findIn K (.ref C) "__init__" = some (some (.ref f))) (hf:PySem.W.typeIn K (.ref f)=some (.type "function"))
  (h:codeAny (model prog w) (A.under (.builtin "type.__call__" ⟨.ref C :: vs,kw⟩)) (.call (.ref f) ⟨.ref (s.heap.objs.size+1) :: vs,kw⟩) (PySem.W.InitBack (s.heap.objs.size+1) R)
   { s with heap:=(s.heap.push PySem.W.emptyDict).push (PySem.W.instObj C s.heap.objs.size) }) :
  codeAny (model prog w) A (.call (.ref C) ⟨vs,kw⟩) R s:=by
 obtain⟨hh,g,d,t,os⟩:=s
 exact PySem.W.make_core (PySem.W.makes_of X hm) (PySem.W.looks_findIn X hi) (fun self=>PySem.W.bind_fn X self hf) (.inl rfl) h
end
def Ju (f:Str) (v:V):List (Str×V)->List (Str×V)
 | []=>[(f,v)]
 | (g,x) :: r=>if g=f then(g,v) :: r else(g,x) :: Ju f v r
theorem Iy (f g:Str)(v:V):∀ fs:List (Str×V),(Ju f v fs).lookup g=if g=f then some v else fs.lookup g
 | []=>by
   show List.lookup g [(f,v)]=_
   by_cases h:g=f
   . have hb:(g==f)=true:=beq_iff_eq.mpr h
     simp only[List.lookup,hb,if_pos h]
   have hb:(g==f)=false:=beq_eq_false_iff_ne.mpr h
   simp only[List.lookup,hb,if_neg h]
 | (k,x) :: r=>by
   have ih:=Iy f g v r
   rw[show Ju f v ((k,x) :: r)=(if k=f then(k,v) :: r else(k,x) :: Ju f v r) from rfl]
   by_cases hk:k=f
   . rw[if_pos hk]
     by_cases h:g=k
     . have hb:(g==k)=true:=beq_iff_eq.mpr h
       simp only[List.lookup,hb,if_pos (h.trans hk)]
     have hb:(g==k)=false:=beq_eq_false_iff_ne.mpr h
     simp only[List.lookup,hb,if_neg (fun e:g=f=>h (e.trans hk.symm))]
   rw[if_neg hk]
   by_cases h:g=k
   . have hb:(g==k)=true:=beq_iff_eq.mpr h
     simp only[List.lookup,hb,if_neg (fun e:g=f=>hk (h.symm.trans e))]
   have hb:(g==k)=false:=beq_eq_false_iff_ne.mpr h
   simp only[List.lookup,hb]
   exact ih
theorem Ji (f:Str)(v:V):∀ fs:List (Str×V),f∈(Ju f v fs).map (·.1)/\∀ g,g∈fs.map (·.1)->g∈(Ju f v fs).map (·.1)
 | []=>⟨by simp[Ju],fun g h=>by simp at h⟩
 | (k,x) :: r=>by
   obtain⟨i1,i2⟩:=Ji f v r
   rw[show Ju f v ((k,x) :: r)=(if k=f then(k,v) :: r else(k,x) :: Ju f v r) from rfl]
   by_cases hk:k=f
   . rw[if_pos hk]
     subst hk
     exact⟨by simp,fun g h=>by simpa using h⟩
   rw[if_neg hk]
   refine⟨?_,fun g h=>?_⟩
   . rw[List.map_cons]
     exact List.mem_cons_of_mem _ i1
   rw[List.map_cons] at h ⊢
   rcases List.mem_cons.mp h with e | e
   . exact List.mem_cons.mpr (.inl e)
   exact List.mem_cons_of_mem _ (i2 g e)
theorem Jp (f:Str)(v:V):∀ fs:List (Str×V),(Ju f v fs).length<=fs.length+1
 | []=>by simp[Ju]
 | (k,x) :: r=>by
   have ih:=Jp f v r
   rw[show Ju f v ((k,x) :: r)=(if k=f then(k,v) :: r else(k,x) :: Ju f v r) from rfl]
   by_cases hk:k=f
   . rw[if_pos hk,List.length_cons,List.length_cons];omega
   rw[if_neg hk,List.length_cons,List.length_cons];omega
theorem RelO.some_of {v:V}{o:Option Value}(r:RelO (some v) o):∃ u,o=some u/\RelV v u:=by
 cases o with
 | none=>exact(show False from r).elim
 | some u=>exact⟨u,rfl,r⟩
theorem RelO.none_of {o:Option Value}(r:RelO none o):o=none:=by
 cases o with
 | none=>rfl
 | some u=>exact(show False from r).elim
theorem Ug {v:V}{u:Value}(r:RelV v u):PySem.W.handedIn u=true:=by
 cases v with
 | non=>cases (show u=Value.none from r);rfl
 | bl b=>cases (show u=Value.bool b from r);rfl
 | int i=>obtain⟨t,e⟩:=(show ∃ t,u=Value.int i t from r);cases e;rfl
 | str x=>obtain⟨t,e⟩:=(show ∃ t,u=Value.str x t from r);cases e;rfl
 | byt b=>obtain⟨t,e⟩:=(show ∃ t,u=Value.bytes b t from r);cases e;rfl
 | flt b=>obtain⟨t,e⟩:=(show ∃ t,u=Value.float b t from r);cases e;rfl
 | ref a=>cases (show u=Value.ref a from r);rfl
 | ty n=>cases (show u=Value.type n from r);rfl
section
variable {P:Program}{w:World}{H H':Hp}{h h':Heap}{a C dx:Addr}{fs fs':List (Str×V)}
theorem Ox (hok:HOk P w H h)(e:H a=some (.ins C dx fs)):∃ mA,ObjM h a dx C mA/\(∀ f,RelO (fs.lookup f) (mA f))/\PySem.Within mA (fs.map (·.1))/\fs.length<=1000/\H dx=some (.own a):=by
 obtain⟨d,z,ne,ob,mA,n,r,q⟩:=(show ObjOk P w H h a (.ins C dx fs) from hok a _ e)
 exact⟨mA,⟨ob,n,ne⟩,r,q,z,d⟩
end
structure Cls (K:PySem.W.Frag)(C:Addr):Prop where
 pg:PySem.W.plainGet K C Str.empty=true
 hd:PySem.W.hasDictIn K C=true
 po:PySem.W.plainOver K C=true
 sa:PySem.W.findIn K (.ref C) "__setattr__" = some (some (.builtin "object.__setattr__"))
theorem Cls.get {K:PySem.W.Frag}{C:Addr}(c:Cls K C)(f:Str):PySem.W.plainGet K C f=true:=c.pg
def NoAttr (K:PySem.W.Frag)(C:Addr)(f:Str):Prop:=PySem.W.findIn K (.ref C) f=some none
theorem NoAttr.taker {K:PySem.W.Frag}{C:Addr}{f:Str}(n:NoAttr K C f):PySem.W.takerIn K C f=some none:=by
 unfold PySem.W.takerIn
 rw[show PySem.W.findIn K (.ref C) f=some none from n]
 rfl
structure ah9 (K:PySem.W.Frag)(C:Addr)(m:Str)(f:Addr):Prop where
 at_:PySem.W.findIn K (.ref C) m=some (some (.ref f))
 fn:PySem.W.isFn K (.ref f)=true
 kp:PySem.W.keepIn K (.ref f)=true
section
variable {X:Cx}{pins:List (Addr×Obj)}{σ:St}{H:Hp}{s:Shared}{a C dx:Addr}{fs:List (Str×V)}{f:Str}{v:V}{A:Around}{E:Value->Shared->Prop}
theorem Rr {b:Bool}{Q:Value->Shared->Prop}(I:Inv X pins σ H s)(e:H a=some (.ins C dx fs))(c:Cls X.K C)(n:NoAttr X.K C f)(l:fs.lookup f=some v)
  (h:∀ u s',Inv X pins σ H s'->RelV v u->Q u s'):wpAny (model X.prog X.w) A (getAttr (.ref a) f b) Q E s:=by
 obtain⟨mA,O,r,_,_,_⟩:=Ox I.hok e
 obtain⟨u,hu,ru⟩:=RelO.some_of (v:=v) (o:=mA f) (by rw[<- l];exact r f)
 exact Zt I.kIn O (c.get f) c.hd n hu (Ug ru) (h u _ (I.tok _) ru)
theorem R7 {m:Str}{g:Addr}{pl:Sem Bool}{Q:Value×List Value->Shared->Prop}(I:Inv X pins σ H s)(e:H a=some (.ins C dx fs))(c:Cls X.K C)(k:ah9 X.K C m g)(l:fs.lookup m=none)
  (h:Q (.ref g,[.ref a]) s):wpAny (model X.prog X.w) A (getMethod (.ref a) m pl) Q E s:=by
 obtain⟨mA,O,r,_,_,_⟩:=Ox I.hok e
 have hn:mA m=none:=RelO.none_of (by rw[<- l];exact r m)
 exact Wz I.kIn O (c.get m) k.at_ k.fn hn h
theorem Rq {y:V}{u:Value}{Q:Unit->Shared->Prop}(I:Inv X pins σ H s)(e:H a=some (.ins C dx fs))(c:Cls X.K C)(n:NoAttr X.K C f)(hl:fs.length<1000)(ry:RelV y u)
  (h:∀ s',Inv X pins σ (upd H a (.ins C dx (Ju f y fs))) s'->Q () s'):wpAny (model X.prog X.w) A (setAttr (.ref a) f u) Q E s:=by
 obtain⟨mA,O,r,wi,_,ho⟩:=Ox I.hok e
 have hz:(fs.map (·.1)).length<=sizeLine:=by rw[List.length_map,sizeLine_eq];omega
 refine a50 I.kIn O c.sa c.po n.taker c.hd wi hz fun h' O' sb=>h _ ?_
 have hd:∃ o,h'.get? dx=some o:=let ⟨o,_,_,e',_⟩:=O'.ns;⟨o,e'⟩
 refine I.write (x:=a) (e:=dx) (by rw[e];exact True.intro) (.inr ho) (fun b q hb z=>(sb.2 b hb).trans z) hd ?_
 refine⟨by rw[Aq O.ne];exact ho,?_,O.ne,O'.obj,_,O'.ns,fun g=>?_,fun g hg=>?_⟩
 . have:=Jp f y fs;omega
 . show RelO ((Ju f y fs).lookup g) (if g=f then some u else mA g)
   rw[Iy]
   by_cases q:g=f
   . rw[if_pos q,if_pos q];exact ry
   rw[if_neg q,if_neg q];exact r g
 by_cases q:g=f
 . rw[q];exact(Ji f y fs).1
 refine(Ji f y fs).2 g (wi g fun z=>hg ?_)
 show(if g=f then some u else mA g)=none
 rw[if_neg q];exact z
theorem Inv.made (I:Inv X pins σ H s):Inv X pins σ (upd (upd H s.heap.objs.size (.own (s.heap.objs.size+1))) (s.heap.objs.size+1) (.ins C s.heap.objs.size []))
  { s with heap:=(s.heap.push PySem.W.emptyDict).push (PySem.W.instObj C s.heap.objs.size) }:=by
 have e1:(s.heap.push PySem.W.emptyDict).get? s.heap.objs.size=some PySem.W.emptyDict:=Heap.get?_push_size s.heap rfl
 have e2:((s.heap.push PySem.W.emptyDict).push (PySem.W.instObj C s.heap.objs.size)).get? (s.heap.objs.size+1)=some (PySem.W.instObj C s.heap.objs.size):=by
  have:=Heap.get?_push_size (s.heap.push PySem.W.emptyDict) (o:=PySem.W.instObj C s.heap.objs.size) rfl
  rwa[Heap.size_push] at this
 have e3:(s.heap.push PySem.W.emptyDict).Ns s.heap.objs.size (fun _=>none):=⟨PySem.W.emptyDict,#[],_,e1,rfl,(fun e he=>absurd he (by simp)),fun _=>rfl⟩
 have I1:=I.laid (a:=s.heap.objs.size) (o:=.own (s.heap.objs.size+1)) (h':=s.heap.push PySem.W.emptyDict) (t':=s.toks) (fun b u q=>Heap.get?_push_of_some _ q) (Nat.le_refl _) ⟨_,e1⟩
 refine I1.laid (a:=s.heap.objs.size+1) (o:=.ins C s.heap.objs.size []) (t':=s.toks) (fun b u q=>Heap.get?_push_of_some _ q) (Nat.le_of_eq (Heap.size_push _ _)) ?_
 have ne:s.heap.objs.size≠s.heap.objs.size+1:=Nat.ne_of_lt (Nat.lt_succ_self _)
 refine⟨by rw[Aq ne,A9],Nat.zero_le _,ne,e2,fun _=>none,(Heap.Ns1.of_empty e3).at fun o q=>Heap.get?_push_of_some _ q,fun _=>True.intro,fun y hy=>absurd rfl hy⟩
theorem a35 {prog:Program}{w:World}{env:Env}{e:Expr}{f:Str}{pos:Pos}{s:Shared}{Q:Value->Shared->Prop}(hb:attributeBase e f env (eval e env)=eval e env)
  (h:wpAny (model prog w) A (eval e env) (fun o s₁=>wpAny (model prog w) A (getAttr o f true) Q E s₁) E s):wpAny (model prog w) A (eval (.Attribute e f pos) env) Q E s:=
 Attribute_any_ h (by rw[arm_eval_Attribute,hb])
end
section
variable {X:Cx}{o e value:Expr}{f:Str}{pos pos' tpos:Pos}{ta tv:TE}
end
section
variable {X:Cx}{pins:List (Addr×Obj)}{σ:St}{H:Hp}{s:Shared}{A:Around}{E:Value->Shared->Prop}{Q:Value->Shared->Prop}{c:Value}{b:Bool}
end
structure Room (k:Nat)(A:Around):Prop where
 hd:A.handled=none
 dp:A.depth+3*k+5<recursionLimit
 un:A.units+16*k+200<cLine
 gd:A.guards=some []
theorem Room.mono {j k:Nat}{A:Around}(r:Room k A)(h:j<=k):Room j A:=⟨r.hd,by have:=r.dp;omega,by have:=r.un;omega,r.gd⟩
theorem Room.deeper {k:Nat}{A:Around}(r:Room (k+1) A)(env:Env):Room k (A.deeper env):=
 ⟨r.hd,by have:=r.dp;show A.depth+1+3*k+5<_;omega,by have:=r.un;show A.units+3+16*k+200<_;omega,r.gd⟩
theorem Rn {A:Around}{C:Addr}{us:List Value}{kw:List (Str×Value)}:(A.under (.builtin "type.__call__" ⟨.ref C :: us,kw⟩)).depth=A.depth+1:=by
 first | rfl | simp[Around.under,Code.weight,Code.isCreation,Code.isGuard,Code.isCaller,Code.frames,Code.isFrame,guardIds]
theorem Rl {A:Around}{C:Addr}{us:List Value}{kw:List (Str×Value)}:(A.under (.builtin "type.__call__" ⟨.ref C :: us,kw⟩)).units=A.units+1:=by
 first | rfl | simp[Around.under,Code.cUnits,Code.frames,Code.isFrame]
theorem Room.make {k:Nat}{A:Around}(r:Room (k+1) A)(C:Addr)(us:List Value)(kw:List (Str×Value)):Room k (A.under (.builtin "type.__call__" ⟨.ref C :: us,kw⟩)):=
 ⟨r.hd,by have:=r.dp;rw[Rn];omega,by have:=r.un;rw[Rl];omega,(by first | exact r.gd | (simpa[Around.under,Code.isGuard,guardIds,pushGuards] using r.gd))⟩
theorem Room.depth {k:Nat}{A:Around}(r:Room k A):A.depth<recursionLimit:=by have:=r.dp;omega
theorem Room.units {k:Nat}{A:Around}(r:Room k A):A.units+64<cLine:=by have:=r.un;omega
def ah8:TA:=fun _ H Q=>Q [] H
def X7 (ta:TE)(tr:TA):TA:=fun σ H Q=>ta σ H fun x H1=>tr σ H1 fun xs H2=>Q (x :: xs) H2
section
variable {X:Cx}{e:Expr}{es:List Expr}{te:TE}{t:TA}{pos:Pos}
theorem A2:PA X [] ah8:=fun _ _ _ _ H Q I h=>Calls.spliced_nil ⟨[],H,I,.nil,h⟩
theorem A1 (ha:PE X e te)(hr:PA X es t)(hs:starEach (e :: es) X.env=(false,eval e X.env) :: starEach es X.env:=by ac_nf):PA X (e :: es) (X7 te t):=by
 intro pos pins s σ H Q I h
 rw[hs]
 show wpAny _ _ (spliced ((false,eval e X.env) :: backTo pos (starEach es X.env))) _ _ s
 refine Calls.spliced_cons (thn (ha pins s σ H _ I h) fun u s1 ⟨x,H1,I1,r1,q1⟩=>?_)
 exact thn (hr pos pins s1 σ H1 _ I1 q1) fun us s2 ⟨xs,H2,I2,r2,q2⟩=>⟨x :: xs,H2,I2,.cons r1 r2,q2⟩
def am4 (t:TA):TE:=fun σ H Q=>t σ H fun xs H1=>xs.length<=sizeLine/\∀ p,H1 p=none->Q (.ref p) (upd H1 p (.tup xs))
def an4 (t:TA):TE:=fun σ H Q=>t σ H fun xs H1=>xs.length<=sizeLine/\∀ p,H1 p=none->Q (.ref p) (upd H1 p (.lst xs))
theorem Bm {x1}(h:PA X es t):PE X (.Tuple es x1 pos) (am4 t):=by
 intro pins s σ H Q I hq
 refine wpAny_Tuple_spliced (thn (h pos pins s σ H _ I hq) fun us s1 ⟨xs,H1,I1,r,z,q⟩=>⟨by rw[<- r.length];exact z,?_⟩)
 have hf:H1 s1.heap.objs.size=none:=I1.hok.fresh (Nat.le_refl _)
 refine⟨.ref s1.heap.objs.size,upd H1 s1.heap.objs.size (.tup xs),I1.laid (t':=s1.toks) (fun b u e=>Heap.get?_push_of_some _ e) (Nat.le_refl _) ?_,rfl,q _ hf⟩
 exact⟨z,us,r,⟨_,Heap.get?_push_size _ rfl,rfl,⟨_,rfl⟩,rfl⟩⟩
theorem Cd (h:PA X es t):PE X (.List es pos) (an4 t):=by
 intro pins s σ H Q I hq
 refine wpAny_List_spliced (thn (h pos pins s σ H _ I hq) fun us s1 ⟨xs,H1,I1,r,z,q⟩=>⟨by rw[<- r.length];exact z,?_⟩)
 have hf:H1 s1.heap.objs.size=none:=I1.hok.fresh (Nat.le_refl _)
 refine⟨.ref s1.heap.objs.size,upd H1 s1.heap.objs.size (.lst xs),I1.laid (t':=s1.toks) (fun b u e=>Heap.get?_push_of_some _ e) (Nat.le_refl _) ?_,rfl,q _ hf⟩
 exact⟨z,us,0,r,Heap.get?_push_size _ rfl⟩
end
abbrev Sp:=List V->Hp->VK->XK->Prop
abbrev CXT:=List Env->Hp->Shared->XK->Value->Shared->Prop
structure Env0 (P:Program)(w:World)(K:PySem.W.Frag)(mg:Str->Option Value)(base:Heap)(A:Around)(outer:List Env)(s:Shared)(H:Hp):Prop where
 frames:A.frames=some outer
 mod:Mod K mg base
 bs:∀ b o,base.get? b=some o->s.heap.get? b=some o/\H b=none
 bsz:base.objs.size<=s.heap.objs.size
 funs:s.heap.FunFrames base outer
 frf:∀ b∈frs outer,H b=none
 hok:HOk P w H s.heap
 bare:AllBare s.gens
def CE (outer:List Env)(P:Program)(w:World)(H:Hp)(s:Shared)(Q:VK)(u:Value)(s':Shared):Prop:=
 ∃ v H',s'.os=s.os/\AllBare s'.gens/\Un (frs outer) [] H H' s.heap s'.heap/\HOk P w H' s'.heap/\RelV v u/\Q v H'
def CR (CX:CXT)(outer:List Env)(P:Program)(w:World)(H:Hp)(s:Shared)(Q:VK)(E:XK)(r:Result)(s':Shared):Prop:=
 match r with
 | .ok (.ret u)=>CE outer P w H s Q u s'
 | .ok _=>False
 | .error e=>CX outer H s E e s'
structure FnOk (P:Program)(w:World)(K:PySem.W.Frag)(mg:Str->Option Value)(base:Heap)(CX:CXT)(k:Nat)(f:Addr)(fd:FuncData)(ps:List Str)(sp:Sp):Prop where
 len:∀ vs H Q E,sp vs H Q E->vs.length=ps.length
 run:∀(A:Around) (outer:List Env) (s:Shared) (H:Hp) (args:Args) (us:List Value) (vs:List V) (Q:VK) (E:XK),Room k A->Env0 P w K mg base A outer s H->BindsTo s fd args (ps.zip us)->Vals vs us->sp vs H Q E ->
  codeAny (model P w) A (.call (.ref f) args) (CR CX outer P w H s Q E) s
theorem Env0.make {P:Program}{w:World}{K:PySem.W.Frag}{mg:Str->Option Value}{base:Heap}{A:Around}{outer:List Env}{s:Shared}{H:Hp}(e:Env0 P w K mg base A outer s H)(C:Addr)(us:List Value)(kw:List (Str×Value)) :
  Env0 P w K mg base (A.under (.builtin "type.__call__" ⟨.ref C :: us,kw⟩)) outer s H:=⟨by first | exact e.frames | (simpa[Around.under,Code.envs,Code.isFrame,pushEnvs] using e.frames),e.mod,e.bs,e.bsz,e.funs,e.frf,e.hok,e.bare⟩
section
variable {X:Cx}{pins:List (Addr×Obj)}{σ:St}{H:Hp}{s s':Shared}
theorem Inv.env0 (I:Inv X pins σ H s):Env0 X.prog X.w X.K X.mg X.base X.A X.stack s H:=
 ⟨I.ok.frames,I.ok.mod,I.bs,Nat.le_trans I.ok.bsz I.sz,I.stack,I.stkFree,I.hok,I.bare⟩
theorem Inv.after {Q:VK}{u:Value}(I:Inv X pins σ H s)(h:CE X.stack X.prog X.w H s Q u s'):EP X pins σ Q u s':=by
 obtain⟨v,H',os,bare,un,hok,r,q⟩:=h
 obtain⟨hh,g,d,t,os'⟩:=s'
 obtain rfl:os'=s.os:=os
 exact⟨v,H',I.call (h':=hh) (g':=g) (d':=d) (t':=t) (ch:=[]) un hok bare (fun b z=>absurd z (by simp)),r,q⟩
end
def a40 (sp:Sp)(dvs:List V)(E:XK)(t:TA):TE:=fun σ H Q=>t σ H fun vs H1=>sp (vs++dvs) H1 Q E
def al6 (C:Addr)(m:Str)(sp:Sp)(dvs:List V)(E:XK)(ta:TE)(t:TA):TE:=fun σ H Q=>ta σ H fun x H1=>∃ a dx fs,x = .ref a/\H1 a=some (.ins C dx fs)/\fs.lookup m=none /\
 t σ H1 fun vs H2=>sp (x :: (vs++dvs)) H2 Q E
def ak3 (C:Addr)(sp:Sp)(dvs:List V)(E:XK)(t:TA):TE:=fun σ H Q=>t σ H fun vs H1=>∀ x dx,H1 x=none->H1 dx=none->dx≠x ->
 sp (.ref x :: (vs++dvs)) (upd (upd H1 dx (.own x)) x (.ins C dx [])) (fun v H2=>v = .non/\Q (.ref x) H2) E
def Binds (K:PySem.W.Frag)(fd:FuncData)(ps:List Str)(ds:List Value):Prop:=
 ∀(s:Shared) (us:List Value),K.In s.heap->(us++ds).length=ps.length->BindsTo s fd ⟨us,[]⟩ (ps.zip (us++ds))
theorem Binds.all {K:PySem.W.Frag}{fd:FuncData}{ps:List Str}(h:∀ us:List Value,us.length=ps.length->bindArgs fd ⟨us,[]⟩=pure (ps.zip us)):Binds K fd ps []:=fun s us _ hl=>by
 rw[List.append_nil] at hl ⊢
 exact .of_eq (h us hl)
def Ki (CX:CXT)(X:Cx)(E:XK):Prop:=∀(pins:List (Addr×Obj)) (σ:St) (H:Hp) (s:Shared) (e:Value) (s':Shared),Inv X pins σ H s->CX X.stack H s E e s'->X.xe e s'
section
variable {X:Cx}{CX:CXT}{k:Nat}{f C:Addr}{fd:FuncData}{ps:List Str}{sp:Sp}{dvs:List V}{ds:List Value}{E:XK}{x m:Str}{p pos apos:Pos}{e o:Expr}{es:List Expr}{ta:TE}{t:TA}
theorem Ye {pins:List (Addr×Obj)}{σ:St}{H:Hp}{s:Shared}{Q:VK}{us:List Value}{vs:List V}(F:FnOk X.prog X.w X.K X.mg X.base CX k f fd ps sp)(hr:Room k X.A)(hb:Binds X.K fd ps ds)(hd:Vals dvs ds)(hx:Ki CX X E)
  (I:Inv X pins σ H s) (r:Vals vs us) (h:sp (vs++dvs) H Q E):wpAny (model X.prog X.w) X.A (call (.ref f) us) (EP X pins σ Q) X.xe s:=by
 have r2:Vals (vs++dvs) (us++ds):=r.append hd
 have hl:(us++ds).length=ps.length:=by rw[<- r2.length];exact F.len _ _ _ _ h
 refine wpAny_call (codeAny_mono (F.run X.A X.stack s H ⟨us,[]⟩ (us++ds) (vs++dvs) Q E hr I.env0 (hb s us I.kIn hl) r2 h) fun r s' hq=>?_)
 cases r with
 | error e=>exact hx pins σ H s e s' I hq
 | ok fl=>
   cases fl with
   | ret u=>exact I.after hq
   | next=>exact False.elim hq
   | brk=>exact False.elim hq
   | cont=>exact False.elim hq
theorem a03 (F:FnOk X.prog X.w X.K X.mg X.base CX k f fd ps sp)(hr:Room k X.A)(hg:Gl X x)(hm:X.mg x=some (.ref f))(hk:PySem.W.keepIn X.K (.ref f)=true)(hb:Binds X.K fd ps ds)(hd:Vals dvs ds)(hx:Ki CX X E)
  (ha:PA X (e :: es) t) (hdb:(x==("__debug__":Str))=false:=by decide) (he:starEach (e :: es) X.env=(false,eval e X.env) :: starEach es X.env:=by ac_nf) (hpl:(backTo pos (starEach es X.env)).any (·.1)=false:=by ac_nf) :
  PE X (.Call (.Name x p) (e :: es) [] pos) (a40 sp dvs E t):=by
 intro pins s σ H Q I h
 refine wpAny_Call_Name_kw (Ti I hg hm ?_ hdb)
 refine PySem.W.callWith_K (h₀:=X.base) I.ok.mod.kin hk (thn (ha pos pins s σ H _ I h) fun us s1 ⟨vs,H1,I1,r,q⟩=>⟨I1.kIn,?_⟩) he hpl
 exact Ye F hr hb hd hx I1 r q
theorem a52 {pl:Sem Bool}(he:PE X o ta)(c:Cls X.K C)(hm:ah9 X.K C m f)(F:FnOk X.prog X.w X.K X.mg X.base CX k f fd ps sp)(hr:Room k X.A)(hb:Binds X.K fd ps ds)(hd:Vals dvs ds)(hx:Ki CX X E)(ha:PA X (e :: es) t)
  (hst:starEach (e :: es) X.env=(false,eval e X.env) :: starEach es X.env:=by ac_nf) (hpl:(backTo pos (starEach es X.env)).any (·.1)=false:=by ac_nf)
  (ht:eval (.Call (.Attribute o m apos) (e :: es) [] pos) X.env=(do
   let ov <- eval o X.env
   standAt apos.atName
   let (f,first) <- holding [ov] (getMethod ov m pl)
   callWith pos f first (backTo pos (starEach (e :: es) X.env)) (backToKw pos (keywordEach [] X.env))):=by ac_nf) :
  PE X (.Call (.Attribute o m apos) (e :: es) [] pos) (al6 C m sp dvs E ta t):=by
 intro pins s σ H Q I h
 refine PySem.W.methodCall_KW (pl:=pl) (thn (he pins s σ H _ I h) fun u s1 ⟨x,H1,I1,rx,a,dx,fs,ex,ea,l,q⟩=>?_) ht
 subst ex
 obtain rfl:u=Value.ref a:=rx
 refine R7 I1 ea c hm l ?_
 refine PySem.W.callWith_K (first:=[.ref a]) (h₀:=X.base) I.ok.mod.kin hm.kp (thn (ha pos pins s1 σ H1 _ I1 q) fun us s2 ⟨vs,H2,I2,r,q2⟩=>⟨I2.kIn,?_⟩) hst hpl
 exact Ye (us:=.ref a :: us) (vs:=.ref a :: vs) F hr hb hd hx I2 (.cons rfl r) q2
structure Mk (K:PySem.W.Frag)(C f:Addr):Prop where
 makes:PySem.W.makesIn K C=true
 init:PySem.W.findIn K (.ref C) "__init__" = some (some (.ref f))
 fn:PySem.W.isFn K (.ref f)=true
 kp:PySem.W.keepIn K (.ref C)=true
theorem Xa {pins:List (Addr×Obj)}{σ:St}{H:Hp}{s:Shared}{Q:VK}{us:List Value}{vs:List V}(M:Mk X.K C f)(F:FnOk X.prog X.w X.K X.mg X.base CX k f fd ps sp)(hr:Room (k+1) X.A)(hb:Binds X.K fd ps ds)(hd:Vals dvs ds)
  (hx:Ki CX X E) (I:Inv X pins σ H s) (r:Vals vs us)
  (h:∀ x dx,H x=none->H dx=none->dx≠x->sp (.ref x :: (vs++dvs)) (upd (upd H dx (.own x)) x (.ins C dx [])) (fun v H2=>v = .non/\Q (.ref x) H2) E) :
  wpAny (model X.prog X.w) X.A (call (.ref C) us) (EP X pins σ Q) X.xe s:=by
 have hq:=h (s.heap.objs.size+1) s.heap.objs.size (I.hok.fresh (Nat.le_succ _)) (I.hok.fresh (Nat.le_refl _)) (Nat.ne_of_lt (Nat.lt_succ_self _))
 have I2:=Inv.made (C:=C) I
 have r2:Vals (V.ref (s.heap.objs.size+1) :: (vs++dvs)) (Value.ref (s.heap.objs.size+1) :: (us++ds)):=.cons rfl (r.append hd)
 have hl:(Value.ref (s.heap.objs.size+1) :: us++ds).length=ps.length:=by
  have e:=r2.length
  rw[F.len _ _ _ _ hq] at e
  exact e.symm
 refine wpAny_call (Xf (f:=f) I.kIn M.makes M.init (beq_iff_eq.mp M.fn) (codeAny_mono (F.run _ X.stack _ _ ⟨Value.ref (s.heap.objs.size+1) :: us,[]⟩ (Value.ref (s.heap.objs.size+1) :: (us++ds)) _ _ E (hr.make C us [])
  (I2.env0.make C us []) (hb _ (Value.ref (s.heap.objs.size+1) :: us) I2.kIn hl) r2 hq) fun r s' hq'=>?_))
 cases r with
 | error e=>exact hx pins σ _ _ e s' I2 hq'
 | ok fl=>
   cases fl with
   | ret u=>
     obtain⟨v,H',I3,rv,ev,q3⟩:=I2.after hq'
     subst ev
     exact⟨rv,⟨V.ref (s.heap.objs.size+1),H',I3,rfl,q3⟩⟩
   | next=>exact False.elim hq'
   | brk=>exact False.elim hq'
   | cont=>exact False.elim hq'
theorem a07 (M:Mk X.K C f)(F:FnOk X.prog X.w X.K X.mg X.base CX k f fd ps sp)(hr:Room (k+1) X.A)(hg:Gl X x)(hm:X.mg x=some (.ref C))(hb:Binds X.K fd ps ds)(hd:Vals dvs ds)(hx:Ki CX X E)
  (ha:PA X (e :: es) t) (hdb:(x==("__debug__":Str))=false:=by decide) (he:starEach (e :: es) X.env=(false,eval e X.env) :: starEach es X.env:=by ac_nf) (hpl:(backTo pos (starEach es X.env)).any (·.1)=false:=by ac_nf) :
  PE X (.Call (.Name x p) (e :: es) [] pos) (ak3 C sp dvs E t):=by
 intro pins s σ H Q I h
 refine wpAny_Call_Name_kw (Ti I hg hm ?_ hdb)
 refine PySem.W.callWith_K (h₀:=X.base) I.ok.mod.kin M.kp (thn (ha pos pins s σ H _ I h) fun us s1 ⟨vs,H1,I1,r,q⟩=>⟨I1.kIn,?_⟩) he hpl
 exact Xa M F hr hb hd hx I1 r q
end
section
variable {X:Cx}{CX:CXT}{k:Nat}{f C:Addr}{fd:FuncData}{ps ks:List Str}{sp:Sp}{E:XK}{x m:Str}{p pos apos kpos:Pos}{e o:Expr}{es:List Expr}{kws:List Keyword}{te ta:TE}{t tk:TA}{nm:Option Str}
variable {g:List Value->List Value->List Value}{gV:List V->List V->List V}
end
structure Al (N P:List Str)(sc:Scope):Prop where
 kind:sc.kind = .function
 co:sc.isCoroutine=false
 gen:sc.isGenerator=false
 nd:N.Nodup
 pre:N.take P.length=P
 par:∀ x∈P,sc.names.lookup x=some .local\/sc.names.lookup x=some .cell
 nofree:∀ y∈sc.names,y.2 ≠ .free
theorem Mt {kindOf:Str->Option NameKind}{x:Str}:∀ {binds:List (Str×Value)} {m:Str->Option Value},(∀ v,(x,v)∉binds)->bindL kindOf binds m x=m x
 | [],_,_=>rfl
 | (n,v) :: r,m,h=>by
   unfold bindL
   rw[Mt fun w hw=>h w (List.mem_cons_of_mem _ hw)]
   split
   . have:x≠n:=by rintro rfl;exact h v List.mem_cons_self
     simp[this]
   rfl
theorem Mw {kindOf:Str->Option NameKind}{x:Str}:∀ {binds:List (Str×Value)} {m:Str->Option Value},(∀ v,(x,v)∉binds)->bindC kindOf binds m x=m x
 | [],_,_=>rfl
 | (n,v) :: r,m,h=>by
   unfold bindC
   rw[Mw fun w hw=>h w (List.mem_cons_of_mem _ hw)]
   split
   . rfl
   have:x≠n:=by rintro rfl;exact h v List.mem_cons_self
   simp[this]
theorem Nh {kindOf:Str->Option NameKind} {x:Str} {v:Value}:∀ {P:List Str} {vs:List Value} {i:Nat} {m:Str->Option Value},P.Nodup->P[i]? = some x->vs[i]? = some v->kindOf x=some .local ->
  bindL kindOf (P.zip vs) m x=some v
 | [],_,_,_,_,h,_,_=>by simp at h
 | _ :: _,[],_,_,_,_,h,_=>by simp at h
 | p :: P,w :: vs,0,m,nd,h1,h2,hk=>by
   simp at h1 h2;subst h1;subst h2
   show bindL kindOf ((p,w) :: P.zip vs) m p=_
   unfold bindL
   rw[Mt fun v hv=>(List.nodup_cons.mp nd).1 (List.of_mem_zip hv).1,if_pos hk]
   simp
 | p :: P,w :: vs,i+1,m,nd,h1,h2,hk=>by
   show bindL kindOf ((p,w) :: P.zip vs) m x=_
   unfold bindL
   exact Nh (i:=i) (List.nodup_cons.mp nd).2 (by simpa using h1) (by simpa using h2) hk
theorem Nl {kindOf:Str->Option NameKind} {x:Str} {v:Value}:∀ {P:List Str} {vs:List Value} {i:Nat} {m:Str->Option Value},P.Nodup->P[i]? = some x->vs[i]? = some v->kindOf x≠some .local ->
  bindC kindOf (P.zip vs) m x=some v
 | [],_,_,_,_,h,_,_=>by simp at h
 | _ :: _,[],_,_,_,_,h,_=>by simp at h
 | p :: P,w :: vs,0,m,nd,h1,h2,hk=>by
   simp at h1 h2;subst h1;subst h2
   show bindC kindOf ((p,w) :: P.zip vs) m p=_
   unfold bindC
   rw[Mw fun v hv=>(List.nodup_cons.mp nd).1 (List.of_mem_zip hv).1,if_neg hk]
   simp
 | p :: P,w :: vs,i+1,m,nd,h1,h2,hk=>by
   show bindC kindOf ((p,w) :: P.zip vs) m x=_
   unfold bindC
   exact Nl (i:=i) (List.nodup_cons.mp nd).2 (by simpa using h1) (by simpa using h2) hk
def start (N:List Str)(vs:List V):St:=vs.map some++List.replicate (N.length-vs.length) none
def Ze (CX:CXT)(P:Program)(w:World)(K:PySem.W.Frag)(mg:Str->Option Value)(base:Heap)(N:List Str)(qual:Str)(scope:Scope)(f:Addr)(cd:Value)(A:Around)(outer:List Env)(s:Shared)(H:Hp)(E:XK):Cx where
 prog:=P
 w:=w
 K:=K
 mg:=mg
 base:=base
 A:=A.deeper (envOfC qual scope s.heap.objs.size f cd)
 N:=N
 s₀:=s
 H₀:=H
 env:=envOfC qual scope s.heap.objs.size f cd
 outer:=outer
 stack:=envOfC qual scope s.heap.objs.size f cd :: outer
 ex:=[]
 calm:=true
 fn:=fun _=>true
 pn:=[]
 xe:=fun e s'=>wpAny (model P w) (A.deeper (envOfC qual scope s.heap.objs.size f cd)) (leaving (envOfC qual scope s.heap.objs.size f cd) e) (fun _ s''=>CX outer H s E e s'') (fun e' s''=>CX outer H s E e' s'') s'
theorem Qc {sc:Scope}{n:Nat}{x:Str}(h:sc.names.lookup x=some .cell):∃ c,(cellsFrom n sc.names []).lookup x=some c:=by
 have q:=PySem.W.cellsFrom_some sc.names n [] (.inl h)
 exact Option.isSome_iff_exists.mp q
theorem Ui {CX:CXT}{P:Program}{w:World}{K:PySem.W.Frag}{mg:Str->Option Value}{base:Heap}{N ps:List Str}{qual:Str}{scope:Scope}{f:Addr}{cd:Value}{A:Around}{outer:List Env}{s s1:Shared}{H:Hp}{E:XK}{us:List Value}{vs:List V}
  (S:Al N ps scope) (hd:A.handled=none) (e0:Env0 P w K mg base A outer s H) (hl:vs.length=ps.length) (r:Vals vs us)
  (x:InCallC s s.heap.objs.size (bindL (envOfC qual scope s.heap.objs.size f cd).kindOf (ps.zip us) fun _=>none) (cellsFrom (s.heap.objs.size+1) scope.names []) (bindC (envOfC qual scope s.heap.objs.size f cd).kindOf (ps.zip us) fun _=>none) s1) :
  Inv (Ze CX P w K mg base N qual scope f cd A outer s H E) [] (start N vs) H s1:=by
 have hpl:ps.length<=N.length:=by have:=congrArg List.length S.pre;rw[List.length_take] at this;omega
 obtain⟨h1,tk,rfl,hk⟩:=x.done
 have noA:∀ b:Addr,b∉(Ze CX P w K mg base N qual scope f cd A outer s H E).ex:=fun b z=>absurd (show b∈([]:List Addr) from z) (by simp)
 refine⟨⟨e0.mod,S.kind,rfl,rfl,Nat.le_refl _,fun y z c h1 h2=>?_,fun y hy=>?_,fun y c _ h=>?_,fun _=>hd,Around.frames_deeper e0.frames,.inr ⟨rfl,rfl⟩,fun b z=>absurd z (noA b),e0.bs,e0.bsz,fun b _ _=>noA b,fun b z=>absurd z (noA b),e0.funs,e0.frf⟩,
  rfl,e0.bare,Un.kept hk,⟨_,x.toInCall.ns,fun i y v h1 h2 h3=>?_⟩,fun y c h=>⟨_,x.cell y c h⟩,e0.hok.fresh (Nat.le_refl _),fun y c h=>?_,fun p hp=>absurd (show p∈([]:List (Addr×Obj)) from hp) (by simp),e0.hok.kept hk,?_⟩
 . exact name_of_addr x.apart (PySem.mem_of_lookup h1) (PySem.mem_of_lookup h2)
 . have hy:scope.names.lookup y=some .cell\/scope.names.lookup y=some .free:=hy
   rcases hy with hy | hy
   . exact Qc hy
   exact absurd rfl (S.nofree _ (PySem.mem_of_lookup hy))
 . exact Nat.le_of_lt (x.above y c (PySem.mem_of_lookup h))
 . have hi:i<vs.length:=by
    unfold start at h2
    by_cases hi:i<vs.length
    . exact hi
    rw[List.getElem?_append_right (by simpa using hi)] at h2
    rw[List.getElem?_replicate] at h2
    split at h2<;>cases h2
   have ha:vs[i]? = some v:=by
    unfold start at h2
    rw[List.getElem?_append_left (by simpa using hi),List.getElem?_map] at h2
    cases e:vs[i]? with
    | none=>rw[e] at h2;cases h2
    | some a=>rw[e] at h2;cases h2;rfl
   obtain⟨u,hu,rv⟩:=r.get ha
   have hp:ps[i]? = some y:=by
    rw[<- S.pre,List.getElem?_take_of_lt (by omega)];exact h1
   have ndP:ps.Nodup:=by rw[<- S.pre];exact S.nd.sublist (List.take_sublist _ _)
   refine⟨u,rv,?_⟩
   rcases S.par y (List.mem_of_getElem? hp) with k | k
   . exact .inl ⟨k,Nh ndP hp hu k⟩
   obtain⟨c,e⟩:=Qc (n:=s.heap.objs.size+1) k
   refine .inr ⟨.inl k,c,e,?_⟩
   have q:=x.cell y c e
   rw[Nl ndP hp hu (by show scope.names.lookup y≠_;rw[k];decide)] at q
   exact q
 . exact e0.hok.fresh (Nat.le_of_lt (x.above y c (PySem.mem_of_lookup h)))
 unfold start
 show _=N.length
 rw[List.length_append,List.length_map,List.length_replicate]
 omega
theorem a84 {CX:CXT}{P:Program}{w:World}{K:PySem.W.Frag}{mg:Str->Option Value}{base:Heap}{k:Nat}{f:Addr}{name qual:Str}{params:Arguments}{body:List Stmt}{scope:Scope}{dV kV doc pm cdv ct oc:Value}{an od:Option Addr}
  {osl:Array (Option Value)} {N ps:List Str} {sp:Sp} (lk:K.lookup f=some ⟨oc,od,.func (PySem.W.fnOf name qual params body scope dV kV doc pm an cdv ct),osl⟩) (hcd:PySem.W.codeIn K cdv qual=true) (S:Al N ps scope)
  (len:∀ vs H Q E,sp vs H Q E->vs.length=ps.length)
  (hbody:∀(A:Around) (outer:List Env) (s:Shared) (H:Hp) (vs:List V) (Q:VK) (E:XK),Room k (A.deeper (envOfC qual scope s.heap.objs.size f cdv))->sp vs H Q E ->
   ∃ t,PSs (Ze CX P w K mg base N qual scope f cdv A outer s H E) body t/\t { nx:=fun _ H'=>Q .non H',rt:=Q } (start N vs) H) :
  FnOk P w K mg base CX (k+1) f (PySem.W.fnOf name qual params body scope dV kV doc pm an cdv ct) ps sp:=by
 refine⟨len,fun A outer s H args us vs Q E hr e0 hb r hsp=>?_⟩
 have hl:=len _ _ _ _ hsp
 have KX:K.In s.heap:=e0.mod.kin.keeps fun b o e=>(e0.bs b o e).1
 have lim:s.heap.NoLimit:=e0.mod.nolimit.keeps fun b o e=>(e0.bs b o e).1
 have hkind:∀ y∈ps.zip us,scope.names.lookup y.1=some .local\/(scope.names.lookup y.1=some .cell/\((cellsFrom (s.heap.objs.size+1) scope.names []).lookup y.1).isSome=true):=fun⟨n,v⟩ hy=>by
  rcases S.par n (List.of_mem_zip hy).1 with q | q
  . exact .inl q
  exact .inr ⟨q,PySem.W.cellsFrom_some _ _ _ (.inl q)⟩
 refine codeAny_call_function hr.depth (KX _ _ lk) rfl S.co S.gen rfl (PySem.W.codeRec_of KX hcd) (hb _ _ _ _ ?_)
 refine wpAny_newFunctionEnv_cells S.kind hkind fun env he s1 x=>?_
 subst he
 refine⟨lim.keeps x.toInCall.keep,codeAny_func ?_⟩
 obtain⟨t,ht,hq⟩:=hbody A outer s H vs Q E (hr.deeper _) hsp
 have I:Inv (Ze CX P w K mg base N qual scope f cdv A outer s H E) [] (start N vs) H s1:=Ui S hr.hd e0 hl r x
 refine wpAny_mono (ht [] s1 (start N vs) H _ I hq) (fun fl s' hs=>?_) fun e s' hs=>hs
 have fin:∀ {σ':St} {H':Hp} {v:V} {u:Value},Inv (Ze CX P w K mg base N qual scope f cdv A outer s H E) [] σ' H' s'->RelV v u->Q v H'->CE outer P w H s Q u s':=
  fun {σ' H' v u} J rv q=>⟨v,H',J.os,J.bare,J.base,J.hok,rv,q⟩
 cases fl with
 | ret u=>
   obtain⟨v,σ',H',J,rv,q⟩:=hs
   exact fin J rv q
 | next=>
   obtain⟨σ',H',J,q⟩:=hs
   exact fin (v:=V.non) (u:=Value.none) J rfl q
 | brk=>
   obtain⟨_,_,_,q⟩:=hs
   exact False.elim q
 | cont=>
   obtain⟨_,_,_,q⟩:=hs
   exact False.elim q
section
variable {X:Cx}{x:Str}{p pos:Pos}{e:Expr}{es:List Expr}{t:TA}{id T:String}{r:List V->Hp->VK->Prop}
def tCB (r:List V->Hp->VK->Prop)(t:TA):TE:=fun σ H Q=>t σ H fun vs H1=>r vs H1 Q
theorem An (hc:CallR X (.builtin id) r)(hg:Gl X x)(hm:X.mg x=none)(hv:bootBuiltins x=some (.builtin id))(ha:PA X (e :: es) t)(hn:x ≠ "__name__":=by decide)(hdb:(x==("__debug__":Str))=false:=by decide)
  (he:starEach (e :: es) X.env=(false,eval e X.env) :: starEach es X.env:=by ac_nf) (hpl:(backTo pos (starEach es X.env)).any (·.1)=false:=by ac_nf):PE X (.Call (.Name x p) (e :: es) [] pos) (tCB r t):=by
 intro pins s σ H Q I h
 refine wpAny_Call_Name_kw (J8 I hg hm hv ?_ hn hdb)
 exact PyProof.Rows.callWith_builtin1 (thn (ha pos pins s σ H _ I h) fun us s1 ⟨vs,H1,I1,r1,q1⟩=>hc pins s1 σ H1 vs us Q I1 r1 q1) he hpl
theorem Au (hc:CallR X (.type T) r)(hg:Gl X x)(hm:X.mg x=none)(hv:bootBuiltins x=some (.type T))(ha:PA X (e :: es) t)(hn:x ≠ "__name__":=by decide)(hdb:(x==("__debug__":Str))=false:=by decide)
  (he:starEach (e :: es) X.env=(false,eval e X.env) :: starEach es X.env:=by ac_nf) (hpl:(backTo pos (starEach es X.env)).any (·.1)=false:=by ac_nf):PE X (.Call (.Name x p) (e :: es) [] pos) (tCB r t):=by
 intro pins s σ H Q I h
 refine wpAny_Call_Name_kw (J8 I hg hm hv ?_ hn hdb)
 exact PyProof.Rows.callWith_type1 (thn (ha pos pins s σ H _ I h) fun us s1 ⟨vs,H1,I1,r1,q1⟩=>hc pins s1 σ H1 vs us Q I1 r1 q1) he hpl
end
end L2
namespace HT
open PySem PyProof.Rows
section
open PySem.SeqAt
open PySem.AutoSeq1 (wpAny_loadPart')
open PySem.MeetsSeq PySem.MeetsSeq2 PySem.MeetsSeq3
end
section
variable {prog:Program}{w:World}{A:Around}{E:Value->Shared->Prop}{s:Shared}
theorem cat_tup {t b:Addr}{vs ws:List Value}{Q:Value->Shared->Prop}(ht:IsTup s.heap t vs.toArray)(hb:IsTup s.heap b ws.toArray)(hv:vs≠[])
  (h1:ws=[]->Q (.ref t) s) (h2:ws≠[]->Q (.ref s.heap.objs.size) { s with heap:=s.heap.push { cls:=.type "tuple",data:=.seq (vs++ws).toArray } })
  (hsz:vs.length+ws.length<=sizeLine):wpAny (model prog w) A (binaryOp .Add (.ref t) (.ref b)) Q E s:=by
 obtain⟨⟨cls,dd,data,sl⟩,ho,hc,n,hd⟩:=id ht
 obtain⟨⟨cls2,dd2,data2,sl2⟩,ho2,hc2,n2,hd2⟩:=id hb
 simp only at hc hd hc2 hd2
 subst hc hd hc2 hd2
 have e:vs.toArray++ws.toArray=(vs++ws).toArray:=by simp
 by_cases hw:ws=[]
 . exact concat_meets ⟨_,ho,rfl⟩ ⟨_,ho2,rfl⟩ noFill_tuple_add seq_tuple_add PySem.F.slot_tuple_add PySem.F.entry_tuple_add (PySem.F.args_tuple_add_2 _ _)
    (tuple_addW1 t b vs.toArray ws.toArray n n2 dd dd2 sl sl2 (by simpa using hv) (by simp[hw])) ⟨ho,ho2,h1 hw⟩
 refine concat_meets ⟨_,ho,rfl⟩ ⟨_,ho2,rfl⟩ noFill_tuple_add seq_tuple_add PySem.F.slot_tuple_add PySem.F.entry_tuple_add (PySem.F.args_tuple_add_2 _ _)
  (tuple_addW2 t b vs.toArray ws.toArray n n2 dd dd2 sl sl2 (by simpa using hv) (by simpa using hw) (by rw[List.size_toArray,List.size_toArray];exact hsz)) ⟨ho,ho2,?_⟩
 rw[e]
 exact h2 hw
def sIx (n d:Nat):Option Int->Nat
 | none=>d
 | some v=>if v<0 then(v+(n:Int)).toNat else min v.toNat n
theorem sIx_none (n d:Nat):sIx n d none=d:=rfl
theorem sIx_nat (n d k:Nat):sIx n d (some (k:Int))=min k n:=by
 show(if(k:Int)<0 then((k:Int)+(n:Int)).toNat else min (k:Int).toNat n)=min k n
 rw [if_neg (by omega),Int.toNat_natCast]
theorem a94 (n d:Nat)(hd:d<=n)(o:Option Int):sIx n d o<=n:=by
 cases o with
 | none=>exact hd
 | some v=>
   show(if v<0 then(v+(n:Int)).toNat else min v.toNat n)<=n
   by_cases hv:v<0
   . rw[if_pos hv];omega
   rw[if_neg hv];exact Nat.min_le_right _ _
theorem T2 (v:Int)(n d:Nat):(if v<0 then max (v+(n:Int)) 0 else min v (n:Int))=((sIx n d (some v):Nat):Int):=by
 show(if v<0 then max (v+(n:Int)) 0 else min v (n:Int))=(((if v<0 then(v+(n:Int)).toNat else min v.toNat n):Nat):Int)
 by_cases hv:v<0
 . simp only[if_pos hv];omega
 simp only[if_neg hv];omega
theorem Rp (lo hi:Option Int)(n:Nat):Builtin.Slice.sliceAdjust lo hi 1 (n:Int)=(((sIx n 0 lo:Nat):Int),((sIx n n hi:Nat):Int)):=by
 have h1:¬ ((1:Int)<0):=by omega
 unfold Builtin.Slice.sliceAdjust
 simp only[h1,if_false]
 refine Prod.ext ?_ ?_
 . cases lo with
   | none=>rfl
   | some v=>exact T2 v n 0
 cases hi with
 | none=>rfl
 | some v=>exact T2 v n n
theorem Re (i j:Nat):Builtin.Slice.slicePlaces (i:Int) (j:Int) 1=j-i:=by
 unfold Builtin.Slice.slicePlaces
 have h1:(1:Int)>0:=by omega
 simp only[h1,if_true,Int.ediv_one]
 split<;>omega
theorem Kh {v:Value}{o:Option Int}{Q:Option Int->Shared->Prop}(p:IsPart v o)(h:Q o s):wpAny (model prog w) A (Builtin.Slice.slicePartIndex v) Q E s:=by
 cases p with
 | none=>exact slicePart_none h
 | int i t=>exact slicePart_int h
theorem sliceApplied_gen {sl:Addr}{vl vu:Value}{lo hi:Option Int}{n:Nat}{Q:Int×Int×Nat->Shared->Prop}(hs:s.heap.IsSliceOf sl vl vu .none)(pl:IsPart vl lo)(pu:IsPart vu hi)
  (h:Q (((sIx n 0 lo:Nat):Int),1,sIx n n hi-sIx n 0 lo) s):wpAny (model prog w) A (Builtin.Slice.sliceApplied (.ref sl) (pure (n:Int))) Q E s:=by
 obtain⟨os,hos,hcs,hds⟩:=id hs
 unfold Builtin.Slice.sliceApplied Builtin.Slice.sliceFields
 refine wpAny_bind (wpAny_bind (wpAny_field hos hds (x:=vl) rfl (wpAny_bind (wpAny_field hos hds (x:=vu) rfl (wpAny_bind (wpAny_field hos hds (x:=.none) rfl (wpAny_pure ?_)))))))
 refine wpAny_bind (slicePart_none ?_)
 show wpAny _ _ (if((1:Int)==0)=true then _ else _) _ _ s
 rw[if_neg (by decide)]
 refine wpAny_bind (Kh pl (wpAny_bind (Kh pu (wpAny_bind (wpAny_pure ?_)))))
 show wpAny _ _ (match Builtin.Slice.sliceAdjust lo hi 1 (n:Int) with | (lo,hi)=>pure (lo,(1:Int),Builtin.Slice.slicePlaces lo hi 1)) _ _ s
 rw[Rp lo hi n]
 show wpAny _ _ (pure (((sIx n 0 lo:Nat):Int),(1:Int),Builtin.Slice.slicePlaces ((sIx n 0 lo:Nat):Int) ((sIx n n hi:Nat):Int) 1)) _ _ s
 rw[Re]
 exact wpAny_pure h
theorem X4 (xs:Array Value)(i k:Nat):((List.range k).filterMap fun(m:Nat)=>xs[((i:Int)+(m:Int)*1).toNat]?).toArray=((xs.toList.drop i).take k).toArray:=by
 have e:(fun(m:Nat)=>xs[((i:Int)+(m:Int)*1).toNat]?)=fun m=>xs[i+m]?:=by
  funext m
  have:((i:Int)+(m:Int)*1).toNat=i+m:=by omega
  rw[this]
 rw[e]
 have:=pick_run xs i k
 rw[List.filterMap_map] at this
 have e2:((fun x=>xs[x]?)∘fun x=>i+x)=fun m=>xs[i+m]?:=rfl
 rw[e2] at this
 rw[this]
theorem getItem_tuple_cut {t sl:Addr}{items:Array Value}{vl vu:Value}{lo hi:Option Int}{Q:Value->Shared->Prop}(ht:IsTup s.heap t items)(hs:s.heap.IsSliceOf sl vl vu .none)(pl:IsPart vl lo)(pu:IsPart vu hi)
  (hw:¬ (sIx items.size 0 lo=0/\sIx items.size items.size hi=items.size))
  (h:Q (.ref s.heap.objs.size) { s with heap:=s.heap.push { cls:=.type "tuple",data:=.seq ((items.toList.drop (sIx items.size 0 lo)).take (sIx items.size items.size hi-sIx items.size 0 lo)).toArray } })
  (hsz:items.size<=sizeLine):wpAny (model prog w) A (getItem (.ref t) (.ref sl)) Q E s:=by
 have htake:sizeOk (.seq ((items.toList.drop (sIx items.size 0 lo)).take (sIx items.size items.size hi-sIx items.size 0 lo)).toArray):=by
  show((items.toList.drop (sIx items.size 0 lo)).take (sIx items.size items.size hi-sIx items.size 0 lo)).toArray.size<=sizeLine
  rw[List.size_toArray,List.length_take,List.length_drop,Array.length_toList]
  omega
 have hj:sIx items.size items.size hi<=items.size:=a94 _ _ (Nat.le_refl _) hi
 obtain⟨os,hos,hcs,hds⟩:=id hs
 have hTs:s.TypeIs (.ref sl) "slice":=⟨os,hos,hcs⟩
 unfold getItem
 try with_reducible refine wpAny_holding ?_
 first | refine wpAny_bind (wpAny_pure ?_) | skip
 refine wpAny_bind (wpAny_sequenceKey ht.typeIs (by decide) ?_)
 refine wpAny_bind (wpAny_callSpecial?_slot (name:=Str.ofString "__getitem__") ht.typeIs PyProof.Rows.slot_tuple_getitem
  (wpAny_call_entry PyProof.Rows.slot_tuple_getitem ht.typeIs entry_tuple_getitem ?_ (args_tuple_getitem _ _)))
 show wpAny _ _ (Builtin.Tuple.tupleItemsOf (.ref t) >>= _) _ _ s
 refine wpAny_bind (tupleItemsOf_ ht ?_)
 refine wpAny_bind (wpAny_typeOf hTs ?_)
 rw[if_pos (by decide)]
 refine wpAny_bind (sliceApplied_gen hs pl pu ?_)
 have hno:¬ ((((sIx items.size 0 lo:Nat):Int)==0&&(1:Int)==1&&(sIx items.size items.size hi-sIx items.size 0 lo)==items.size)=true):=by
  intro q
  rw[Bool.and_eq_true,Bool.and_eq_true] at q
  have q1:((sIx items.size 0 lo:Nat):Int)=0:=eq_of_beq q.1.1
  have q2:sIx items.size items.size hi-sIx items.size 0 lo=items.size:=eq_of_beq q.2
  exact hw ⟨by omega,by omega⟩
 show wpAny _ _ (if(((sIx items.size 0 lo:Nat):Int)==0&&(1:Int)==1&&(sIx items.size items.size hi-sIx items.size 0 lo)==items.size)=true then _ else _) _ _ s
 rw[if_neg hno,X4]
 first
  | exact wpAny_bind (m:=Builtin.Tuple.tupleExact _) (wpAny_newObj_type (wpAny_pure ⟨_,rfl,wpAny_pure h⟩) htake)
  | exact wpAny_bind (m:=Builtin.Tuple.tupleExact _) (wpAny_newObj_type (wpAny_bind (wpAny_pure (wpAny_pure ⟨_,rfl,wpAny_pure h⟩))) htake)
  | exact wpAny_bind (wpAny_bind (m:=Builtin.Tuple.tupleExact _) (wpAny_newObj_type (wpAny_pure (wpAny_pure ⟨_,rfl,wpAny_pure h⟩)) htake))
  | exact wpAny_bind (wpAny_bind (m:=Builtin.Tuple.tupleExact _) (wpAny_newObj_type (wpAny_pure ⟨_,rfl,wpAny_pure h⟩) htake))
end
end HT
namespace L2
open PySem PySem.Spec PyProof.Rows
abbrev TO:=St->Hp->(Option Int->Hp->Prop)->Prop
def PO (X:Cx)(e:Option Expr)(t:TO):Prop:=
 ∀(pins:List (Addr×Obj)) (s:Shared) (σ:St) (H:Hp) (Q:Option Int->Hp->Prop),Inv X pins σ H s->t σ H Q ->
  wpAny (model X.prog X.w) X.A (evalPart e X.env) (fun u s'=>∃ o H',Inv X pins σ H' s'/\IsPart u o/\Q o H') X.xe s
def T7:TO:=fun _ H Q=>Q none H
def ah5 (t:TE):TO:=fun σ H Q=>t σ H fun x H1=>∃ i,x = .int i/\Q (some i) H1
section
variable {X:Cx}{e:Expr}{te:TE}{lo hi:Option Expr}{tl th:TO}{pos p2:Pos}
theorem C3:PO X none T7:=by
 intro pins s σ H Q I h
 rw[evalPart_none]
 exact wpAny_pure ⟨none,H,I,.none,h⟩
theorem B4 (h:PE X e te):PO X (some e) (ah5 te):=by
 intro pins s σ H Q I hw
 rw[evalPart_some]
 refine thn (h pins s σ H _ I hw) fun u s1 ⟨x,H1,I1,r1,q1⟩=>?_
 obtain⟨i,rfl,q⟩:=q1
 obtain⟨t,rfl⟩:=r1
 exact⟨some i,H1,I1,.int i t,q⟩
def SlR (X:Cx)(r:V->Option Int->Option Int->Hp->VK->Prop):Prop:=
 ∀(pins:List (Addr×Obj)) (s:Shared) (σ:St) (H:Hp) (x:V) (v vl vu:Value) (lo hi:Option Int) (sl:Addr) (Q:VK),Inv X pins σ H s->RelV x v->s.heap.IsSliceOf sl vl vu .none->IsPart vl lo->IsPart vu hi->r x lo hi H Q ->
  ∃ T id,typeLookup (.type T) "__getitem__" = pure (some (.builtin id))/\s.TypeIs v T/\wpAny (model X.prog X.w) X.A (getItem v (.ref sl)) (EP X pins σ Q) X.xe s
theorem SlR.or {r r':V->Option Int->Option Int->Hp->VK->Prop}(h:SlR X r)(h':SlR X r'):SlR X (fun x lo hi H Q=>r x lo hi H Q\/r' x lo hi H Q):=by
 intro pins s σ H x v vl vu lo hi sl Q I rx hs pl pu q
 rcases q with q | q
 . exact h pins s σ H x v vl vu lo hi sl Q I rx hs pl pu q
 exact h' pins s σ H x v vl vu lo hi sl Q I rx hs pl pu q
def tSl (r:V->Option Int->Option Int->Hp->VK->Prop)(te:TE)(tl th:TO):TE:=fun σ H Q=>te σ H fun x H1=>tl σ H1 fun l H2=>th σ H2 fun u H3=>r x l u H3 Q
theorem Ay {r:V->Option Int->Option Int->Hp->VK->Prop}(hr:SlR X r)(he:PE X e te)(hl:PO X lo tl)(hu:PO X hi th):PE X (.Subscript e (.Slice lo hi none p2) pos) (tSl r te tl th):=by
 intro pins s σ H Q I h
 refine Subscript_ (thn (he pins s σ H _ I h) fun v s1 ⟨x,H1,I1,r1,q1⟩=>?_)
 refine wpAny_Slice (thn (hl pins s1 σ H1 _ I1 q1) fun vl s2 ⟨l,H2,I2,pl,q2⟩=>thn (hu pins s2 σ H2 _ I2 q2) fun vu s3 ⟨u,H3,I3,pu,q3⟩=>?_)
 rw[evalPart_none]
 refine wpAny_pure ?_
 have I4:Inv X pins σ H3 { s3 with heap:=s3.heap.push { cls:=.type "slice",data:=.fields #[vl,vu,.none] } }:=I3.kept (t':=s3.toks) fun b ob q=>Heap.get?_push_of_some _ q
 obtain⟨T,id,hT,ht,hg⟩:=hr pins { s3 with heap:=s3.heap.push { cls:=.type "slice",data:=.fields #[vl,vu,.none] } } σ H3 x v vl vu l u s3.heap.objs.size Q I4 r1 (Heap.IsSliceOf.new ..) pl pu q3
 show wpAny (model X.prog X.w) X.A (subscriptTail e (.Slice lo hi none p2) v (.ref s3.heap.objs.size)) (EP X pins σ Q) X.xe { s3 with heap:=s3.heap.push { cls:=.type "slice",data:=.fields #[vl,vu,.none] } }
 exact tail_any (ops:=[.ref s3.heap.objs.size,v]) ht hT hg (by ac_nf)
def K8 (xs:List V)(lo hi:Option Int):List V:=(xs.drop (HT.sIx xs.length 0 lo)).take (HT.sIx xs.length xs.length hi-HT.sIx xs.length 0 lo)
theorem Jd (xs:List V)(lo hi:Option Int):(K8 xs lo hi).length<=xs.length:=by
 unfold K8
 rw[List.length_take,List.length_drop]
 omega
def am3 (K:PySem.W.Frag):V->Option Int->Option Int->Hp->VK->Prop:=fun x lo hi H Q=>∃ a xs,x = .ref a/\SqT K H a xs /\
 ¬ (HT.sIx xs.length 0 lo=0/\HT.sIx xs.length xs.length hi=xs.length)/\∀ p,H p=none->Q (.ref p) (upd H p (.tup (K8 xs lo hi)))
theorem sl_tup:SlR X (am3 X.K):=by
 intro pins s σ H x v vl vu lo hi sl Q I rx hs pl pu h
 obtain⟨a,xs,rfl,hx,hw,q⟩:=h
 cases rx
 obtain⟨its,r,ht,hz⟩:=I.tuple hx
 have hlen:its.toArray.size=xs.length:=by rw[List.size_toArray];exact r.length.symm
 refine⟨"tuple",_,PyProof.Rows.slot_tuple_getitem.lookup,ht.typeIs,?_⟩
 refine HT.getItem_tuple_cut ht hs pl pu (by rw[hlen];exact hw) ?_ (by rw[hlen];exact hz)
 rw[hlen]
 refine⟨.ref s.heap.objs.size,_,I.laid (t':=s.toks) (o:=.tup (K8 xs lo hi)) (fun b ob q=>Heap.get?_push_of_some _ q) (Nat.le_refl _) ?_,rfl,q _ (I.hok.fresh (Nat.le_refl _))⟩
 exact⟨Nat.le_trans (Jd xs lo hi) hz,_,(r.drop (HT.sIx xs.length 0 lo)).take (HT.sIx xs.length xs.length hi-HT.sIx xs.length 0 lo),IsTupN.new _ _⟩
def ag4 (K:PySem.W.Frag):R2:=fun x y H Q=>∃ a b xs ys,x = .ref a/\y = .ref b/\SqT K H a xs/\SqT K H b ys/\xs≠[]/\xs.length+ys.length<=sizeLine /\
 (ys=[]->Q (.ref a) H)/\(ys≠[]->∀ p,H p=none->Q (.ref p) (upd H p (.tup (xs++ys))))
theorem Vals.nil_iff {xs:List V}{us:List Value}(r:Vals xs us):us=[]↔xs=[]:=by
 cases r with
 | nil=>simp
 | cons _ _=>simp
theorem op_catT:OpR X (binaryOp .Add) (ag4 X.K):=by
 intro pins s σ H x y v u Q I rx ry h
 obtain⟨a,b,xs,ys,rfl,rfl,ha,hb,hx,hz,q1,q2⟩:=h
 cases rx
 cases ry
 obtain⟨its,r1,p1,_⟩:=I.tuple ha
 obtain⟨its2,r2,p2,_⟩:=I.tuple hb
 refine HT.cat_tup p1 p2 (fun z=>hx (r1.nil_iff.mp z)) (fun z=>⟨.ref a,H,I,rfl,q1 (r2.nil_iff.mp z)⟩) (fun z=>?_) (by rw[<- r1.length,<- r2.length];exact hz)
 refine⟨.ref s.heap.objs.size,_,I.laid (t':=s.toks) (o:=.tup (xs++ys)) (fun b ob q=>Heap.get?_push_of_some _ q) (Nat.le_refl _) ?_,rfl,q2 (fun w=>z (r2.nil_iff.mpr w)) _ (I.hok.fresh (Nat.le_refl _))⟩
 exact⟨by rw[List.length_append];exact hz,_,r1.append r2,IsTupN.new _ _⟩
end
def ixN (n:Nat)(i:Int):Option Nat:=if 0<=i then(if i<n then some i.toNat else none) else if -(n:Int)<=i then some (i+n).toNat else none
def atI {α:Type}(xs:List α)(i:Int):Option α:=(ixN xs.length i).bind fun j=>xs[j]?
theorem Z9 {n:Nat}{i:Int}{j:Nat}(h:ixN n i=some j):seqIndex? i n=some j/\j<n /\ -(n:Int)<=i/\i<n:=by
 unfold ixN at h
 by_cases h0:0<=i
 . rw[if_pos h0] at h
   by_cases h1:i<n
   . rw[if_pos h1] at h
     have e:i.toNat=j:=Option.some.inj h
     exact⟨by rw[seqIndex_of h0 h1,e],by omega,by omega,h1⟩
   rw[if_neg h1] at h;cases h
 rw[if_neg h0] at h
 by_cases h1:-(n:Int)<=i
 . rw[if_pos h1] at h
   have e:(i+n).toNat=j:=Option.some.inj h
   exact⟨by rw[seqIndex_neg (by omega) h1,e],by omega,h1,by omega⟩
 rw[if_neg h1] at h;cases h
theorem Lb {α:Type} {xs:List α} {i:Int} {v:α} (h:atI xs i=some v):∃ j,seqIndex? i xs.length=some j/\xs[j]? = some v/\j<xs.length /\ -(xs.length:Int)<=i/\i<xs.length:=by
 unfold atI at h
 cases e:ixN xs.length i with
 | none=>rw[e] at h;cases h
 | some j=>
   rw[e] at h
   obtain⟨h1,h2,h3,h4⟩:=Z9 e
   exact⟨j,h1,h,h2,h3,h4⟩
theorem Bj {α:Type}{xs:List α}{j:Nat}{v:α}(h:xs[j]? = some v):atI xs (j:Int)=some v:=by
 have hj:j<xs.length:=(List.getElem?_eq_some_iff.mp h).1
 have e:ixN xs.length (j:Int)=some j:=by
  unfold ixN
  rw[if_pos (by omega),if_pos (by omega)];simp
 unfold atI;rw[e];exact h
def Zv (b:Expr):Prop:=∀ o i,subscripted b false o i=operate [o,i] (getItem o i)
def IxR (X:Cx)(r:R2):Prop:=
 ∀(value slice:Expr) (pins:List (Addr×Obj)) (s:Shared) (σ:St) (H:Hp) (x y:V) (v u:Value) (Q:VK),Inv X pins σ H s->RelV x v->RelV y u->r x y H Q ->
  subscripted slice false v u=operate [v,u] (getItem v u)->wpAny (model X.prog X.w) X.A (subscriptTail value slice v u) (EP X pins σ Q) X.xe s
def MtR (X:Cx)(id:String)(r:V->List V->Hp->VK->Prop):Prop:=
 ∀(pins:List (Addr×Obj)) (s:Shared) (σ:St) (H:Hp) (x:V) (xs:List V) (v:Value) (us:List Value) (Q:VK),Inv X pins σ H s->RelV x v->Vals xs us->r x xs H Q ->
  wpAny (model X.prog X.w) X.A (call (.builtin id) (v :: us)) (EP X pins σ Q) X.xe s
section
variable {X:Cx}{a b:Expr}{ta tb:TE}{pos:Pos}
theorem IxR.or {r r':R2}(h:IxR X r)(h':IxR X r'):IxR X (fun x y H Q=>r x y H Q\/r' x y H Q):=by
 intro value slice pins s σ H x y v u Q I rx ry q hs
 rcases q with q | q
 . exact h value slice pins s σ H x y v u Q I rx ry q hs
 exact h' value slice pins s σ H x y v u Q I rx ry q hs
theorem Ah {r:R2}(hr:IxR X r)(ha:PE X a ta)(hb:PE X b tb)(hs:Zv b):PE X (.Subscript a b pos) (tOp r ta tb):=by
 intro pins s σ H Q I h
 exact Subscript_ (ak9 ha hb I h fun v u s2 x y H2 I2 rx ry q=>hr a b pins s2 σ H2 x y v u Q I2 rx ry q (hs _ _))
def am7 (K:PySem.W.Frag):R2:=fun x y H Q=>∃ p xs i v,x = .ref p/\y = .int i/\SqL K H p xs/\atI xs i=some v/\Q v H
def an8 (K:PySem.W.Frag):R2:=fun x y H Q=>∃ p xs i v,x = .ref p/\y = .int i/\SqT K H p xs/\atI xs i=some v/\Q v H
def am2:R2:=fun x y H Q=>∃ z i c,x = .str z/\y = .int i/\z.length<=sizeLine/\atI z.cps.toList i=some c/\Q (.str ⟨#[c]⟩) H
theorem ix_list:IxR X (am7 X.K):=by
 intro value slice pins s σ H x y v u Q I rx ry h hs
 obtain⟨p,xs,i,z,rfl,rfl,hq,he,q⟩:=h
 cases rx
 obtain⟨t,rfl⟩:=ry
 obtain⟨its,r,pl,hz⟩:=I.list hq
 obtain⟨j,h1,h2,h3,h4,h5⟩:=Lb he
 obtain⟨w,ew,rw'⟩:=r.get h2
 have hl:=r.length
 have hn:=Iw
 have fin:EP X pins σ Q w s:=⟨z,H,I,rw',q⟩
 by_cases h0:0<=i
 . have hj:i.toNat=j:=by
    rw[seqIndex_of h0 h5] at h1
    exact Option.some.inj h1
   exact item_listR pl.isList h0 (by omega) (by rw[hj];simpa using ew) fin hs
 have hj:(i+(its.toArray.size:Int)).toNat=j:=by
  rw[seqIndex_neg (by omega) h4] at h1
  rw[List.size_toArray,<- hl]
  exact Option.some.inj h1
 exact subscriptTail_builtinR (x:=w) pl.isList.typeIs slot_list_getitem.lookup
  (wpAny_getItem_list_neg (Q:=fun r s'=>r=w/\EP X pins σ Q r s') pl.isList (by omega) (by rw[List.size_toArray]<;>omega) (by omega) (by rw[hj];simpa using ew) ⟨rfl,fin⟩) hs
theorem ix_tup:IxR X (an8 X.K):=by
 intro value slice pins s σ H x y v u Q I rx ry h hs
 obtain⟨p,xs,i,z,rfl,rfl,hq,he,q⟩:=h
 cases rx
 obtain⟨t,rfl⟩:=ry
 obtain⟨its,r,pl,hz⟩:=I.tuple hq
 obtain⟨j,h1,h2,h3,h4,h5⟩:=Lb he
 obtain⟨w,ew,rw'⟩:=r.get h2
 have hl:=r.length
 have hn:=Iw
 have fin:EP X pins σ Q w s:=⟨z,H,I,rw',q⟩
 exact subscriptTail_builtinR (x:=w) pl.typeIs slot_tuple_getitem.lookup
  (getItem_tuple (j:=j) (Q:=fun r s'=>r=w/\EP X pins σ Q r s') pl (by omega) (by omega) (by rw[List.size_toArray,<- hl];exact h1) (by simpa using ew) ⟨rfl,fin⟩) hs
theorem ae6:IxR X am2:=by
 intro value slice pins s σ H x y v u Q I rx ry h hs
 obtain⟨z,i,c,rfl,rfl,hz,he,q⟩:=h
 obtain⟨t,rfl⟩:=rx
 obtain⟨t',rfl⟩:=ry
 obtain⟨j,h1,h2,h3,h4,h5⟩:=Lb he
 have hl:z.cps.toList.length=z.length:=by simp[Str.length]
 rw[hl] at h1 h4 h5
 have hn:=Iw
 exact tail_any (typeIs_str s z t) slot_str_getitem.lookup (getItem_str (c:=c) (by
  have e1:decide (i < -(2 ^ 63:Int))=false:=decide_eq_false (by omega)
  have e2:decide (i>=2 ^ 63)=false:=decide_eq_false (by omega)
  rw[e1,e2,Bool.or_false]) (by rw[h1];simpa using h2) ⟨.str ⟨#[c]⟩,H,I.tok _,⟨_,rfl⟩,q⟩) hs
def rIx (K:PySem.W.Frag):R2:=fun x y H Q=>am7 K x y H Q\/an8 K x y H Q\/am2 x y H Q
theorem ix_seq:IxR X (rIx X.K):=ix_list.or (ix_tup.or ae6)
theorem Mc (lo hi:Option Int) (n:Nat):(sliceBounds lo hi none n).1=((HT.sIx n 0 lo:Nat):Int)/\(sliceBounds lo hi none n).2.1=((HT.sIx n n hi:Nat):Int)/\(sliceBounds lo hi none n).2.2=1:=by
 refine⟨?_,?_,rfl⟩
 . cases lo with
   | none=>simp[sliceBounds,HT.sIx]
   | some i=>
     simp only[sliceBounds,HT.sIx,Option.getD_none,show(1:Int)>0 by decide,if_true]
     by_cases h:i<0
     . simp only[h,if_true]<;>omega
     simp only[h,if_false]<;>omega
 cases hi with
 | none=>simp[sliceBounds,HT.sIx]
 | some i=>
   simp only[sliceBounds,HT.sIx,Option.getD_none,show(1:Int)>0 by decide,if_true]
   by_cases h:i<0
   . simp only[h,if_true]<;>omega
   simp only[h,if_false]<;>omega
theorem Hb (its:List Value)(lo hi:Option Int):slicePick its.toArray lo hi none=((its.drop (HT.sIx its.length 0 lo)).take (HT.sIx its.length its.length hi-HT.sIx its.length 0 lo)).toArray:=by
 obtain⟨h1,h2,h3⟩:=Mc lo hi its.toArray.size
 unfold slicePick
 rw[h1,h2,h3]
 simp only[sliceRange_one,pick_run,List.size_toArray]<;>rfl
def an5 (K:PySem.W.Frag):V->Option Int->Option Int->Hp->VK->Prop:=fun x lo hi H Q=>∃ a xs,x = .ref a/\SqL K H a xs/\∀ p,H p=none->Q (.ref p) (upd H p (.lst (K8 xs lo hi)))
theorem sl_list:SlR X (an5 X.K):=by
 intro pins s σ H x v vl vu lo hi sl Q I rx hs pl pu h
 obtain⟨a,xs,rfl,hx,q⟩:=h
 cases rx
 obtain⟨its,r,ht,hz⟩:=I.list hx
 have hlen:=r.length
 refine⟨"list",_,slot_list_getitem.lookup,ht.isList.typeIs,?_⟩
 refine wpAny_getItem_list_slice ht.isList hs pl pu .none (by simp) ?_ (by rw[List.size_toArray]<;>omega)
 rw[Hb,<- hlen]
 refine⟨.ref s.heap.objs.size,_,I.laid (t':=s.toks) (o:=.lst (K8 xs lo hi)) (fun b ob q=>Heap.get?_push_of_some _ q) (Nat.le_refl _) ?_,rfl,q _ (I.hok.fresh (Nat.le_refl _))⟩
 exact⟨Nat.le_trans (Jd xs lo hi) hz,_,0,(r.drop (HT.sIx xs.length 0 lo)).take (HT.sIx xs.length xs.length hi-HT.sIx xs.length 0 lo),Heap.get?_push_size _ rfl⟩
def Lo:V->Bool
 | .non=>true
 | .bl _=>true
 | .int _=>true
 | .str _=>true
 | _=>false
def eqV:V->V->Bool
 | .non,.non=>true
 | .bl a,.bl b=>a==b
 | .bl a,.int b=>(if a then 1 else 0)==b
 | .int a,.bl b=>a==(if b then 1 else 0)
 | .int a,.int b=>a==b
 | .str a,.str b=>a==b
 | _,_=>false
theorem ad6 {A:Around}{s:Shared}{y x:V}{u v:Value}(ry:RelV y u)(rx:RelV x v)(fy:Lo y=true)(fx:Lo x=true):SeqAt.EqAt A s u v (eqV y x):=by
 cases y with
 | non=>
   cases ry
   cases x with
   | non=>cases rx;exact SeqAt.EqAt.same _
   | bl b=>cases rx;exact SeqAt.EqAt.none_bool b
   | int b=>obtain⟨t,rfl⟩:=rx;exact SeqAt.EqAt.none_int b t
   | str b=>obtain⟨t,rfl⟩:=rx;exact SeqAt.EqAt.none_str b t
   | _=>exact absurd (show false=true from fx) Bool.false_ne_true
 | bl a=>
   cases ry
   cases x with
   | non=>cases rx;exact SeqAt.EqAt.bool_none a
   | bl b=>cases rx;exact SeqAt.EqAt.bool_bool a b
   | int b=>obtain⟨t,rfl⟩:=rx;exact SeqAt.EqAt.bool_int a b t
   | str b=>obtain⟨t,rfl⟩:=rx;exact SeqAt.EqAt.bool_str a b t
   | _=>exact absurd (show false=true from fx) Bool.false_ne_true
 | int a=>
   obtain⟨t',rfl⟩:=ry
   cases x with
   | non=>cases rx;exact SeqAt.EqAt.int_none a t'
   | bl b=>cases rx;exact SeqAt.EqAt.int_bool a t' b
   | int b=>obtain⟨t,rfl⟩:=rx;exact SeqAt.EqAt.int_int a t' b t
   | str b=>obtain⟨t,rfl⟩:=rx;exact SeqAt.EqAt.int_str a t' b t
   | _=>exact absurd (show false=true from fx) Bool.false_ne_true
 | str a=>
   obtain⟨t',rfl⟩:=ry
   cases x with
   | non=>cases rx;exact SeqAt.EqAt.str_none a t'
   | bl b=>cases rx;exact SeqAt.EqAt.str_bool a t' b
   | int b=>obtain⟨t,rfl⟩:=rx;exact SeqAt.EqAt.str_int a t' b t
   | str b=>obtain⟨t,rfl⟩:=rx;exact SeqAt.EqAt.str_str a t' b t
   | _=>exact absurd (show false=true from fx) Bool.false_ne_true
 | _=>exact absurd (show false=true from fy) Bool.false_ne_true
def eqU (x:V)(u:Value):Bool:=match u with
 | .none=>eqV .non x
 | .bool b=>eqV (.bl b) x
 | .int i _=>eqV (.int i) x
 | .str z _=>eqV (.str z) x
 | _=>false
theorem Y1 {x y:V}{u:Value}(r:RelV y u)(f:Lo y=true):eqU x u=eqV y x:=by
 cases y with
 | non=>cases r;rfl
 | bl b=>cases r;rfl
 | int i=>obtain⟨t,rfl⟩:=r;rfl
 | str z=>obtain⟨t,rfl⟩:=r;rfl
 | _=>exact absurd (show false=true from f) Bool.false_ne_true
theorem Jb {x:V}:∀ {xs:List V} {us:List Value},Vals xs us->xs.all Lo=true->us.any (eqU x)=xs.any fun y=>eqV y x
 | _,_,.nil,_=>rfl
 | y :: xs,u :: us,.cons r t,f=>by
   rw[List.all_cons,Bool.and_eq_true] at f
   rw[List.any_cons,List.any_cons,Y1 r f.1,Jb t f.2]
theorem G4 {A:Around}{s:Shared}{x:V}{v:Value}(rx:RelV x v)(fx:Lo x=true):∀ {xs:List V} {us:List Value},Vals xs us->xs.all Lo=true->∀ u∈us,SeqAt.EqAt A s u v (eqU x u)
 | _,_,.nil,_=>fun u hu=>by cases hu
 | y :: xs,u :: us,.cons r t,f=>fun u' hu=>by
   rw[List.all_cons,Bool.and_eq_true] at f
   rcases List.mem_cons.mp hu with rfl | hu
   . rw[Y1 r f.1];exact ad6 r rx f.1 fx
   exact G4 rx fx t f.2 u' hu
def inV (x:V)(xs:List V):Bool:=xs.any fun y=>eqV y x
def rIn (K:PySem.W.Frag)(neg:Bool):R2:=fun x y H Q=>∃ p xs,y = .ref p/\(SqL K H p xs\/SqT K H p xs)/\Lo x=true/\xs.all Lo=true/\Q (.bl (if neg then !inV x xs else inV x xs)) H
theorem op_in_seq:OpR X (compareOp .In) (rIn X.K false):=by
 intro pins s σ H x y v u Q I rx ry h
 obtain⟨p,xs,rfl,hq,fx,fs,q⟩:=h
 cases ry
 rcases hq with hq | hq
 . obtain⟨its,r,pl,hz⟩:=I.list hq
   refine SeqAt.in_listAt (eqU x) pl.isList (fun w hw=>G4 rx fx r fs w (by simpa using hw)) ⟨.bl _,H,I,rfl,?_⟩
   rw[show its.toArray.any (eqU x)=its.any (eqU x) by simp,Jb r fs]
   exact q
 obtain⟨its,r,pl,hz⟩:=I.tuple hq
 refine SeqAt.in_tupleAt (eqU x) pl (fun w hw=>G4 rx fx r fs w (by simpa using hw)) ⟨.bl _,H,I,rfl,?_⟩
 rw[show its.toArray.any (eqU x)=its.any (eqU x) by simp,Jb r fs]
 exact q
theorem op_notIn_seq:OpR X (compareOp .NotIn) (rIn X.K true):=by
 intro pins s σ H x y v u Q I rx ry h
 obtain⟨p,xs,rfl,hq,fx,fs,q⟩:=h
 cases ry
 rcases hq with hq | hq
 . obtain⟨its,r,pl,hz⟩:=I.list hq
   refine SeqAt.notIn_listAt (eqU x) pl.isList (fun w hw=>G4 rx fx r fs w (by simpa using hw)) ⟨.bl _,H,I,rfl,?_⟩
   rw[show its.toArray.any (eqU x)=its.any (eqU x) by simp,Jb r fs]
   exact q
 obtain⟨its,r,pl,hz⟩:=I.tuple hq
 refine SeqAt.notIn_tupleAt (eqU x) pl (fun w hw=>G4 rx fx r fs w (by simpa using hw)) ⟨.bl _,H,I,rfl,?_⟩
 rw[show its.toArray.any (eqU x)=its.any (eqU x) by simp,Jb r fs]
 exact q
theorem op_notIn_str:OpR X (compareOp .NotIn) (fun x y H Q=>∃ i j,x = .str i/\y = .str j/\Q (.bl (!(!(Builtin.Str.occurrences j i 0 j.length 1).isEmpty))) H):=by
 intro pins s σ H x y v u Q I rx ry h
 obtain⟨i,j,rfl,rfl,q⟩:=h
 obtain⟨t,rfl⟩:=rx
 obtain⟨t',rfl⟩:=ry
 exact notIn_str ⟨.bl _,H,I,rfl,q⟩
theorem CallR.or {f:Value}{r r':List V->Hp->VK->Prop}(h:CallR X f r)(h':CallR X f r'):CallR X f (fun xs H Q=>r xs H Q\/r' xs H Q):=by
 intro pins s σ H xs us Q I rs q
 rcases q with q | q
 . exact h pins s σ H xs us Q I rs q
 exact h' pins s σ H xs us Q I rs q
theorem Mz:CallR X (.type "list") (fun xs H Q=>∃ p ys,xs=[.ref p]/\(SqL X.K H p ys\/SqT X.K H p ys)/\∀ l,H l=none->Q (.ref l) (upd H l (.lst ys))):=by
 intro pins s σ H xs us Q I r h
 obtain⟨p,ys,rfl,hq,q⟩:=h
 obtain⟨u,rfl,rx⟩:=Gi r
 cases rx
 have fin:∀(its:List Value),Vals ys its->ys.length<=sizeLine->∀(h':Heap) (c':Nat),(∀ b o',s.heap.get? b=some o'->h'.get? b=some o') ->
   h'.get? s.heap.objs.size=some { cls:=.type "list",dict:=none,data:=.seq its.toArray c',slots:=#[] }->EP X pins σ Q (.ref s.heap.objs.size) { s with heap:=h' }:=fun its r' hz h' c' kp e=>
  ⟨.ref s.heap.objs.size,_,I.laid (t':=s.toks) kp (Nat.le_refl _) (show ObjOk X.prog X.w _ h' _ (.lst ys) from⟨hz,its,c',r',e⟩),rfl,q _ (I.hok.fresh (Nat.le_refl _))⟩
 rcases hq with hq | hq
 . obtain⟨its,r',pl,hz⟩:=I.list hq
   have hlen:=r'.length
   obtain⟨o,ho,hc,n,hd⟩:=pl.isList
   exact call_list_seq p (.inl rfl) ho hc hd (fun h' c' kp e=>fin its r' hz h' c' kp e) (by simp only[List.size_toArray]<;>omega)
 obtain⟨its,r',pl,hz⟩:=I.tuple hq
 have hlen:=r'.length
 obtain⟨o,ho,hc,n,hd⟩:=pl
 exact call_list_seq p (.inr rfl) ho hc hd (fun h' c' kp e=>fin its r' hz h' c' kp e) (by simp only[List.size_toArray]<;>omega)
theorem Kq:CallR X (.type "tuple") (fun xs H Q=>∃ p ys,xs=[.ref p]/\((SqL X.K H p ys/\∀ l,H l=none->Q (.ref l) (upd H l (.tup ys)))\/(SqT X.K H p ys/\Q (.ref p) H))):=by
 intro pins s σ H xs us Q I r h
 obtain⟨p,ys,rfl,h⟩:=h
 obtain⟨u,rfl,rx⟩:=Gi r
 cases rx
 rcases h with ⟨hq,q⟩ | ⟨hq,q⟩
 . obtain⟨its,r',pl,hz⟩:=I.list hq
   have hlen:=r'.length
   refine call_tuple_list pl.isList (fun h' kp=>?_) (by simp only[List.size_toArray]<;>omega)
   have I1:Inv X pins σ H { s with heap:=h' }:=I.kept (t':=s.toks) kp
   have I2:Inv X pins σ (upd H h'.objs.size (.tup ys)) { s with heap:=h'.push { cls:=.type "tuple",data:=.seq its.toArray } }:=
    I1.laid (t':=s.toks) (fun b o e=>Heap.get?_push_of_some _ e) (Nat.le_refl _) (show ObjOk X.prog X.w _ _ _ (.tup ys) from⟨hz,its,r',IsTupN.new _ _⟩)
   exact⟨.ref h'.objs.size,_,I2,rfl,q _ (I1.hok.fresh (Nat.le_refl _))⟩
 obtain⟨its,r',pl,hz⟩:=I.tuple hq
 exact call_tuple_same pl ⟨.ref p,H,I,rfl,q⟩
def tyV (K:PySem.W.Frag)(T:String)(x:V)(H:Hp):Prop:=match x with
 | .str _=>T = "str"
 | .int _=>T = "int"
 | .ref p=>(T = "list" /\ ∃ xs,SqL K H p xs)\/(T = "tuple" /\ ∃ o,K.lookup p=some o/\o.cls = .type "tuple" /\ o.dict=none) \/
   (T = "dict" /\ ((∃ kvs,H p=some (.dK kvs))\/∃ kvs,H p=some (.dT kvs)))\/(T = "set" /\ ∃ S n,H p=some (.set S n))
 | _=>False
theorem Xw {pins:List (Addr×Obj)}{σ:St}{H:Hp}{s:Shared}{T:String}{x:V}{v:Value}(I:Inv X pins σ H s)(r:RelV x v)(ty:tyV X.K T x H) :
  s.TypeIs v T/\∀ a,v = .ref a->∃ ob,s.heap.get? a=some ob/\ob.dict=none:=by
 cases x with
 | str z=>
   obtain⟨t,rfl⟩:=r
   cases (show T = "str" from ty)
   exact⟨typeIs_str s z t,fun _ e=>nomatch e⟩
 | int i=>
   obtain⟨t,rfl⟩:=r
   cases (show T = "int" from ty)
   exact⟨typeIs_int s i t,fun _ e=>nomatch e⟩
 | ref p=>
   cases r
   rcases ty with ⟨rfl,xs,hq⟩ | ⟨rfl,o,hk,hc,hd⟩ | ⟨rfl,hk⟩ | ⟨rfl,S,n,hk⟩
   . obtain⟨its,_,pl,_⟩:=I.list hq
     refine⟨pl.isList.typeIs,fun a e=>?_⟩
     cases e
     obtain⟨o,n,e,c,hd,_⟩:=pl
     exact⟨o,e,hd⟩
   . refine⟨⟨o,I.kIn p o hk,hc⟩,fun a e=>?_⟩
     cases e
     exact⟨o,I.kIn _ o hk,hd⟩
   . have z:∃ o,s.heap.get? p=some o/\o.ExactDict:=by
      rcases hk with ⟨kvs,hk⟩ | ⟨kvs,hk⟩
      . obtain⟨_,_,_,_,o,_,_,e,ex,_⟩:=I.hok p _ hk
        exact⟨o,e,ex⟩
      obtain⟨_,_,_,_,o,_,_,e,ex,_⟩:=I.hok p _ hk
      exact⟨o,e,ex⟩
     obtain⟨o,e,ex⟩:=z
     refine⟨⟨o,e,ex.1⟩,fun a e2=>?_⟩
     cases e2
     exact⟨o,e,ex.2.1⟩
   obtain⟨o,_,_,_,e,ex,_⟩:=I.hok p _ hk
   refine⟨⟨o,e,ex.1⟩,fun a e2=>?_⟩
   cases e2
   exact⟨o,e,ex.2.1⟩
 | _=>exact False.elim ty
def aj0 (K:PySem.W.Frag)(T:String)(r:V->List V->Hp->VK->Prop)(to:TE):TE:=fun σ H Q=>to σ H fun x H1=>tyV K T x H1/\r x [] H1 Q
def tBM (K:PySem.W.Frag)(T:String)(r:V->List V->Hp->VK->Prop)(to:TE)(t:TA):TE:=fun σ H Q=>to σ H fun x H1=>tyV K T x H1/\t σ H1 fun xs H2=>r x xs H2 Q
variable {o e:Expr}{es:List Expr}{to:TE}{t:TA}{name:Str}{apos cpos:Pos}{T id:String}{r:V->List V->Hp->VK->Prop}
theorem ae5 (pa:PlainAttrs T)(slot:Slot T name id)(hty:typeOf (.builtin id)=pure (.type "method_descriptor"))(hm:MtR X id r)(ho:PE X o to)
  (hbase:attributeBase o name X.env (eval o X.env)=eval o X.env:=by ac_nf) (hline:(apos.endLine==cpos.line)=true:=by ac_nf):PE X (.Call (.Attribute o name apos) [] [] cpos) (aj0 X.K T r to):=by
 intro pins s σ H Q I h
 refine wpAny_Call_method0_late hbase hline (thn (ho pins s σ H _ I h) fun v s1 ⟨x,H1,I1,r1,ty,q1⟩=>?_)
 obtain⟨h1,h2⟩:=Xw I1 r1 ty
 exact⟨T,id,pa,slot,hty,h1,h2,Calls.callWith_builtin rfl (PySem.evalArgs_none (hm pins s1 σ H1 x [] v [] Q I1 r1 .nil q1))⟩
theorem ai5 (pa:PlainAttrs T)(slot:Slot T name id)(hty:typeOf (.builtin id)=pure (.type "method_descriptor"))(hm:MtR X id r)(ho:PE X o to)(ha:PA X (e :: es) t)
  (hbase:attributeBase o name X.env (eval o X.env)=eval o X.env:=by ac_nf)
  (hfew:((backTo cpos (starEach (e :: es) X.env)).all (fun x=>!x.1)&&(backToKw cpos (keywordEach [] X.env)).all (fun x=>x.1.isSome)
   && decide ((e :: es).length+([]:List Keyword).length+(if([]:List Keyword).isEmpty then 0 else 1)<30))=true:=by ac_nf)
  (hline:(apos.endLine==cpos.line)=true:=by ac_nf) (hs:starEach (e :: es) X.env=(false,eval e X.env) :: starEach es X.env:=by ac_nf) (hplain:(backTo cpos (starEach es X.env)).any (·.1)=false:=by ac_nf) :
  PE X (.Call (.Attribute o name apos) (e :: es) [] cpos) (tBM X.K T r to t):=by
 intro pins s σ H Q I h
 refine wpAny_Call_method_late hbase hfew hline rfl (thn (ho pins s σ H _ I h) fun v s1 ⟨x,H1,I1,r1,ty,q1⟩=>?_)
 obtain⟨h1,h2⟩:=Xw I1 r1 ty
 refine⟨T,id,pa,slot,hty,h1,h2,?_⟩
 have hA:=ha cpos pins s1 σ H1 _ I1 q1
 rw[hs] at hA ⊢
 refine Calls.callWith_builtin (by show(false||(backTo cpos (starEach es X.env)).any (·.1))=false;rw[hplain]<;>rfl) (Calls.evalArgs_plain ?_)
 exact thn hA fun us s2 ⟨vs,H2,I2,r2,q2⟩=>hm pins s2 σ H2 x vs v us Q I2 r1 r2 q2
/- xs.append(e),list.index on a module's tuple .. are MtR facts of 06m -/
end
def MtM (X:Cx)(id:String)(r:V->List V->Hp->VK->Prop):Prop:=
 ∀(pins:List (Addr×Obj)) (s:Shared) (σ:St) (H:Hp) (x:V) (xs:List V) (v:Value) (us:List Value) (Q:VK),Inv X pins σ H s->RelV x v->Vals xs us->r x xs H Q ->
  wpAny (model X.prog X.w) X.A (call (.builtin id) (v :: us)) (EP X pins σ Q) X.xe s
theorem Vals.one {x:V}{us:List Value}(h:Vals [x] us):∃ u,us=[u]/\RelV x u:=by
 cases h with
 | cons r q=>cases q;exact⟨_,rfl,r⟩
theorem Vals.two {x y:V}{us:List Value}(h:Vals [x,y] us):∃ u v,us=[u,v]/\RelV x u/\RelV y v:=by
 cases h with
 | cons r q=>obtain⟨u,rfl,q'⟩:=Vals.one q;exact⟨_,_,rfl,r,q'⟩
theorem Vals.eraseIdx:∀ {xs:List V} {us:List Value} (i:Nat),Vals xs us->Vals (xs.eraseIdx i) (us.eraseIdx i)
 | _,_,_,.nil=>.nil
 | _,_,0,.cons _ t=>t
 | _,_,i+1,.cons r t=>.cons r (Vals.eraseIdx i t)
theorem Vals.reverse {xs:List V}{us:List Value}(h:Vals xs us):Vals xs.reverse us.reverse:=by
 induction h with
 | nil=>exact .nil
 | cons r t ih=>rw[List.reverse_cons,List.reverse_cons];exact Vals.append ih (.cons r .nil)
theorem Vals.rep {xs:List V}{us:List Value}(h:Vals xs us):∀ k:Nat,Vals (List.replicate k xs).flatten (List.replicate k us).flatten
 | 0=>.nil
 | k+1=>by
   rw[List.replicate_succ,List.replicate_succ,List.flatten_cons,List.flatten_cons]
   exact Vals.append h (Vals.rep h k)
theorem M4 {α:Type}:∀(l:List α) (i:Nat),(l.eraseIdx i).length<=l.length
 | [],_=>Nat.le_refl _
 | _ :: _,0=>Nat.le_succ _
 | _ :: r,i+1=>Nat.succ_le_succ (M4 r i)
theorem Ma (its:List Value):∀(k:Nat) (acc:List Value),
  List.foldl (fun x1 x2=>x1++x2) acc.toArray (List.replicate k its.toArray)=(acc++(List.replicate k its).flatten).toArray
 | 0,acc=>by simp
 | k+1,acc=>by
   have e:acc.toArray++its.toArray=(acc++its).toArray:=by simp
   have e2:(acc++its)++(List.replicate k its).flatten=acc++(List.replicate (k+1) its).flatten:=by
    rw[List.replicate_succ,List.flatten_cons,List.append_assoc]
   rw[<- e2,<- Ma its k (acc++its),<- e,List.replicate_succ,List.foldl_cons]
section
variable {X:Cx}{pins:List (Addr×Obj)}{σ:St}{H:Hp}{s:Shared}{l b:Addr}{xs ys zs:List V}
theorem Inv.lset {its its':List Value}{n:Nat}{f:Array Value->Array Value}{t':Nat}(I:Inv X pins σ H s)(hH:H l=some (.lst xs))
  (e:s.heap.get? l=some { cls:=.type "list",data:=.seq its.toArray n }) (hf:f its.toArray=its'.toArray) (hv:Vals ys its') (hz:ys.length<=sizeLine) :
  Inv X pins σ (upd H l (.lst ys)) { s with heap:=s.heap.update l (Obj.mapSeq f),toks:=t' }:=by
 have q:=PySem.IsL.update e f
 rw[hf] at q
 refine I.write (x:=l) (e:=l) (by rw[hH];exact trivial) (.inl rfl) (fun b' u hb hu=>(Heap.get?_update_other s.heap (Obj.mapSeq f) (Ne.symm hb)).trans hu) ⟨_,q⟩ ?_
 exact⟨hz,its',_,hv,q⟩
theorem Inv.lnew {its:List Value}{t':Nat}(I:Inv X pins σ H s)(hv:Vals ys its)(hz:ys.length<=sizeLine) :
  Inv X pins σ (upd H s.heap.objs.size (.lst ys)) { s with heap:=s.heap.push { cls:=.type "list",data:=.seq its.toArray },toks:=t' }:=
 I.laid (fun _ _ q=>Heap.get?_push_of_some _ q) (Nat.le_refl _) ⟨hz,its,0,hv,Heap.get?_push_size _ rfl⟩
theorem Inv.fresh (I:Inv X pins σ H s):H s.heap.objs.size=none:=I.hok.fresh (Nat.le_refl _)
theorem Inv.lstM (I:Inv X pins σ H s)(hH:H l=some (.lst xs)):xs.length<=sizeLine/\∃(its:List Value) (n:Nat),Vals xs its/\xs.length=its.length/\s.heap.get? l=some { cls:=.type "list",data:=.seq its.toArray n }:=by
 obtain⟨z,its,n,r,e⟩:=I.hok l _ hH
 exact⟨z,its,n,r,r.length,e⟩
theorem Qj {n:Nat}(h:n<=sizeLine):Builtin.List.listTooLong n=false:=by
 unfold Builtin.List.listTooLong
 exact decide_eq_false (by omega)
end
section
variable {X:Cx}
def Uh:V->List V->Hp->VK->Prop:=fun x vs H Q=>∃ l xs y,x = .ref l/\vs=[y]/\H l=some (.lst xs)/\xs.length<sizeLine/\Q .non (upd H l (.lst (xs++[y])))
theorem Fi:MtM X "list.append" Uh:=by
 intro pins s σ H x vs v us Q I rx rv h
 obtain⟨l,xs,y,rfl,rfl,hH,hz,q⟩:=h
 cases rx
 obtain⟨u,rfl,ru⟩:=rv.one
 obtain⟨z,its,n,r,hl,e⟩:=I.lstM hH
 refine call_meets F.slot_list_append ⟨_,e,rfl⟩ F.entry_list_append (F.args_list_append_2 _ _) (PySem.list_append l its.toArray n u (by rw[List.size_toArray];omega)) ⟨e,?_⟩
 refine⟨.non,_,I.lset (its':=its++[u]) hH e (by simp) (r.append (.cons ru .nil)) ?_,rfl,q⟩
 rw[List.length_append,List.length_singleton]
 omega
def Tn:V->List V->Hp->VK->Prop:=fun x vs H Q=>∃ l b xs zs,x = .ref l/\vs=[.ref b]/\H l=some (.lst xs)/\H b=some (.lst zs)/\xs.length+zs.length<=sizeLine/\Q .non (upd H l (.lst (xs++zs)))
theorem Iz:MtM X "list.extend" Tn:=by
 intro pins s σ H x vs v us Q I rx rv h
 obtain⟨l,b,xs,zs,rfl,rfl,hH,hB,hz,q⟩:=h
 cases rx
 obtain⟨u,rfl,ru⟩:=rv.one
 cases ru
 obtain⟨z,its,n,r,hl,e⟩:=I.lstM hH
 obtain⟨z2,its2,n2,r2,hl2,e2⟩:=I.lstM hB
 have hsz:its.toArray.size+its2.toArray.size<=sizeLine:=by rw[List.size_toArray,List.size_toArray];omega
 have hlong:¬ (!its.toArray.isEmpty&&Builtin.List.listTooLong (its.toArray.size+its2.toArray.size))=true:=by
  rw[Qj hsz,Bool.and_false]
  exact Bool.false_ne_true
 refine call_meets F.slot_list_extend ⟨_,e,rfl⟩ F.entry_list_extend (F.args_list_extend_2 _ _)
  (AutoSeq1.list_extend_list_list_0 l its.toArray n b its2.toArray n2 hlong (by rw[List.size_toArray];omega) (by omega)) ⟨e,e2,?_⟩
 refine⟨.non,_,I.lset (its':=its++its2) hH e (by simp) (r.append r2) ?_,rfl,q⟩
 rw[List.length_append]
 omega
def Ys:V->List V->Hp->VK->Prop:=fun x vs H Q=>∃ l xs i k y,x = .ref l/\vs=[.int i]/\H l=some (.lst xs) /\ -(2 ^ 63)<=i/\i<2 ^ 63/\seqIndex? i xs.length=some k/\xs[k]? = some y/\Q y (upd H l (.lst (xs.eraseIdx k)))
theorem Xn:MtM X "list.pop" Ys:=by
 intro pins s σ H x vs v us Q I rx rv h
 obtain⟨l,xs,i,k,y,rfl,rfl,hH,h1,h2,hk,hy,q⟩:=h
 cases rx
 obtain⟨u,rfl,ru⟩:=rv.one
 obtain⟨t,rfl⟩:=ru
 obtain⟨z,its,n,r,hl,e⟩:=I.lstM hH
 obtain⟨w,hw,rw'⟩:=r.get hy
 refine call_meets F.slot_list_pop ⟨_,e,rfl⟩ F.entry_list_pop (F.args_list_pop_2 _ _)
  (MeetsSeq.list_pop_at l its.toArray n i t k w (fitsIndex_both h1 h2) (by rw[List.size_toArray,<- hl];exact hk) (by rw[<- Array.getElem?_toList];exact hw) (by rw[List.size_toArray];omega)) ⟨e,?_⟩
 refine⟨y,_,I.lset (its':=its.eraseIdx k) hH e ?_ (r.eraseIdx k) ?_,rw',q⟩
 . show its.toArray.eraseIdxIfInBounds k=(its.eraseIdx k).toArray
   rw[List.eraseIdxIfInBounds_toArray]
 have:=M4 xs k
 omega
def am9:R2:=fun x y H Q=>∃ l b xs zs,x = .ref l/\y = .ref b/\H l=some (.lst xs)/\H b=some (.lst zs)/\xs.length+zs.length<=sizeLine/\∀ p,H p=none->Q (.ref p) (upd H p (.lst (xs++zs)))
theorem op_cat:OpR X (binaryOp .Add) am9:=by
 intro pins s σ H x y v u Q I rx ry h
 obtain⟨l,b,xs,zs,rfl,rfl,hH,hB,hz,q⟩:=h
 cases rx
 cases ry
 obtain⟨z,its,n,r,hl,e⟩:=I.lstM hH
 obtain⟨z2,its2,n2,r2,hl2,e2⟩:=I.lstM hB
 refine PySem.P.add_list e e2 ?_ (by rw[List.size_toArray,List.size_toArray];omega)
 have ea:its.toArray++its2.toArray=(its++its2).toArray:=by simp
 rw[ea]
 exact⟨.ref _,_,I.lnew (t':=s.toks) (r.append r2) (by rw[List.length_append];omega),rfl,q _ I.fresh⟩
def am5:R2:=fun x y H Q=>∃ l k xs,x = .ref l/\y = .int k/\H l=some (.lst xs) /\ -(2 ^ 63)<=k/\k<2 ^ 63/\xs.length*k.toNat<=sizeLine /\
 ∀ p,H p=none->Q (.ref p) (upd H p (.lst (List.replicate k.toNat xs).flatten))
theorem a27 {α:Type}(xs:List α)(k:Nat):(List.replicate k xs).flatten.length=k*xs.length:=by
 induction k with
 | zero=>simp
 | succ k ih=>rw[List.replicate_succ,List.flatten_cons,List.length_append,ih,Nat.succ_mul,Nat.add_comm]
theorem a65:OpR X (binaryOp .Mult) am5:=by
 intro pins s σ H x y v u Q I rx ry h
 obtain⟨l,k,xs,rfl,rfl,hH,h1,h2,hz,q⟩:=h
 cases rx
 obtain⟨t,rfl⟩:=ry
 obtain⟨z,its,n,r,hl,e⟩:=I.lstM hH
 have hlen:its.toArray.size*k.toNat<=sizeLine:=by rw[List.size_toArray,<- hl];exact hz
 have hcap:¬ its.toArray.size*k.toNat>(2 ^ 63-1) / 8:=by
  have:(sizeLine:Nat)<=(2 ^ 63-1) / 8:=by decide
  omega
 have hfit:¬ (!Builtin.List.listFitsIndex k)=true:=by
  rw[fitsIndex_both h1 h2]
  exact Bool.false_ne_true
 have hlong:¬ Builtin.List.listTooLong (its.toArray.size*k.toNat)=true:=by
  rw[Qj hlen]
  exact Bool.false_ne_true
 have hnew:List.foldl (fun x1 x2=>x1++x2) #[] (List.replicate (if its.toArray.isEmpty=true then 0 else k.toNat) its.toArray)=(List.replicate k.toNat its).flatten.toArray:=by
  have f0:∀ m:Nat,List.foldl (fun x1 x2=>x1++x2) #[] (List.replicate m its.toArray)=(List.replicate m its).flatten.toArray:=fun m=>by
   have:=Ma its m []
   rw[List.nil_append] at this
   exact this
  rw[f0]
  cases its with
  | nil=>simp
  | cons a r'=>rw[if_neg (by simp)]
 refine wpAny_binaryOp_repeat_ref (T:="list") (U:="int") (by decide) ⟨_,e,rfl⟩ (fun s'=>typeIs_int s' k t) noFill_list_mul F.fills_int_mul F.slot_int_rmul repeat_list F.slot_int_index.lookup
  (call_meets F.slot_int_rmul (typeIs_int s k t) F.entry_int_rmul (F.args_int_rmul_2 _ _) (int___rmul___int_list k t l its.toArray n)
   ⟨e,rfl,⟨_,e,rfl⟩,call_meets F.slot_list_mul ⟨_,e,rfl⟩ F.entry_list_mul (F.args_list_mul_2 _ _) (AutoListH.list___mul___list_int_3 l its.toArray n k t hfit hcap hlong) ⟨e,?_⟩⟩)
 rw[hnew]
 exact⟨.ref _,_,I.lnew (t':=s.toks) (r.rep k.toNat) (by rw[a27,Nat.mul_comm];exact hz),rfl,q _ I.fresh⟩
end
section
variable {prog:Program}{w:World}{A:Around}{E:Value->Shared->Prop}{s:Shared}
set_option maxRecDepth 100000 in
end
section
variable {X:Cx}
end
section
variable {κ:Type}[DecidableEq κ]
def Cg (kvs:List (κ×V))(k:κ):Option V:=(kvs.find? fun kv=>decide (kv.1=k)).map (·.2)
def Dv (kvs:List (κ×V))(k:κ)(v:V):List (κ×V):=
 if(kvs.any fun kv=>decide (kv.1=k))=true then kvs.map (fun kv=>if kv.1=k then(kv.1,v) else kv) else kvs++[(k,v)]
theorem X5 {k:κ}:Cg ([]:List (κ×V)) k=none:=rfl
theorem Ax {p:κ×V} {r:List (κ×V)} {k:κ} (e:p.1=k):Cg (p :: r) k=some p.2:=by simp[Cg,List.find?_cons,e]
theorem Aw {p:κ×V}{r:List (κ×V)}{k:κ}(e:¬ p.1=k):Cg (p :: r) k=Cg r k:=by simp[Cg,List.find?_cons,e]
theorem Fb (k:κ):∀ kvs:List (κ×V),(kvs.any fun kv=>decide (kv.1=k))=(Cg kvs k).isSome
 | []=>rfl
 | p :: r=>by
   rw[List.any_cons]
   by_cases e:p.1=k
   . simp only[Ax e,decide_eq_true e,Bool.true_or,Option.isSome_some]
   rw[Aw e,decide_eq_false e,Bool.false_or];exact Fb k r
theorem Pm (k j:κ)(y:V):∀ kvs:List (κ×V),Cg (kvs.map fun kv=>if kv.1=k then(kv.1,y) else kv) j=(Cg kvs j).map fun x=>if j=k then y else x
 | []=>rfl
 | p :: r=>by
   have ih:=Pm k j y r
   rw[List.map_cons]
   by_cases h:p.1=k
   . rw[if_pos h]
     by_cases e:p.1=j
     . rw[Ax (p:=(p.1,y)) e,Ax e,Option.map_some,if_pos (e.symm.trans h)]
     rw[Aw (p:=(p.1,y)) e,Aw e,ih]
   rw[if_neg h]
   by_cases e:p.1=j
   . rw[Ax (p:=p) e,Ax e,Option.map_some,if_neg (fun z=>h (e.trans z))]
   rw[Aw (p:=p) e,Aw e,ih]
theorem Mr (k j:κ)(y:V):∀ kvs:List (κ×V),Cg kvs k=none->Cg (kvs++[(k,y)]) j=if j=k then some y else Cg kvs j
 | [],_=>by
   by_cases e:k=j
   . rw[if_pos e.symm];exact Ax (p:=(k,y)) e
   rw[if_neg (fun z=>e z.symm)];exact Aw (p:=(k,y)) e
 | p :: r,hn=>by
   rw[List.cons_append]
   have hk:¬ p.1=k:=fun z=>by rw[Ax z] at hn;cases hn
   rw[Aw hk] at hn
   have ih:=Mr k j y r hn
   by_cases e:p.1=j
   . rw[Ax e,Ax e,if_neg (fun z=>hk (e.trans z))]
   rw[Aw e,Aw e,ih]
theorem Xd (kvs:List (κ×V))(k j:κ)(y:V):Cg (Dv kvs k y) j=if j=k then some y else Cg kvs j:=by
 unfold Dv
 by_cases a:(kvs.any fun kv=>decide (kv.1=k))=true
 . rw[if_pos a,Pm]
   rw[Fb] at a
   by_cases e:j=k
   . obtain⟨x,hx⟩:=Option.isSome_iff_exists.mp a
     rw[if_pos e,e,hx,Option.map_some,if_pos rfl]
   rw[if_neg e]
   cases Cg kvs j with
   | none=>rfl
   | some x=>rw[Option.map_some,if_neg e]
 rw[if_neg a]
 refine Mr k j y kvs ?_
 rw[Fb] at a
 cases q:Cg kvs k with
 | none=>rfl
 | some x=>rw[q] at a;exact(a rfl).elim
theorem Gh (kvs:List (κ×V))(k:κ)(v:V):(Dv kvs k v).length<=kvs.length+1:=by
 unfold Dv
 split
 . rw[List.length_map];omega
 rw[List.length_append,List.length_cons,List.length_nil];omega
theorem Gy {kvs:List (κ×V)}{k:κ}(v:V)(h:Cg kvs k=none):Dv kvs k v=kvs++[(k,v)]:=by
 unfold Dv
 rw [Fb,h]
 exact if_neg (by decide)
theorem RelO.isSome_eq {o:Option V}{u:Option Value}(r:RelO o u):o.isSome=u.isSome:=by
 cases o with
 | none=>cases u with
   | none=>rfl
   | some _=>exact(show False from r).elim
 | some _=>cases u with
   | none=>exact(show False from r).elim
   | some _=>rfl
theorem RelO.getD {o:Option V}{u:Option Value}{d:V}{d':Value}(r:RelO o u)(rd:RelV d d'):RelV (o.getD d) (u.getD d'):=by
 cases o with
 | none=>cases u with
   | none=>exact rd
   | some _=>exact(show False from r).elim
 | some _=>cases u with
   | none=>exact(show False from r).elim
   | some _=>exact r
theorem KV.val {kvs:List (κ×V)} {vs:List (κ×Value)} (r:KV kvs vs) (k:κ):RelO (Cg kvs k) (valueAt vs k):=by
 unfold KV at r
 induction r with
 | nil=>exact True.intro
 | @cons p q ps qs h t ih=>
   obtain⟨h1,h2⟩:=h
   by_cases e:p.1=k
   . have e':q.1=k:=h1.symm.trans e
     have b:valueAt (q :: qs) k=some q.2:=by simp[valueAt,List.find?_cons,e']
     rw[Ax e,b];exact h2
   have e':¬ q.1=k:=fun z=>e (h1.trans z)
   have b:valueAt (q :: qs) k=valueAt qs k:=by simp[valueAt,List.find?_cons,e']
   rw[Aw e,b];exact ih
theorem KV.any {kvs:List (κ×V)}{vs:List (κ×Value)}(r:KV kvs vs)(k:κ):(kvs.any fun kv=>decide (kv.1=k))=vs.any fun kv=>decide (kv.1=k):=by
 unfold KV at r
 induction r with
 | nil=>rfl
 | cons h t ih=>rw[List.any_cons,List.any_cons,ih,h.1]
theorem KV.repl {kvs:List (κ×V)}{vs:List (κ×Value)}(r:KV kvs vs)(k:κ){y:V}{u:Value}(ry:RelV y u) :
  KV (kvs.map fun kv=>if kv.1=k then(kv.1,y) else kv) (vs.map fun kv=>if kv.1=k then(kv.1,u) else kv):=by
 unfold KV at r ⊢
 induction r with
 | nil=>exact .nil
 | @cons p q ps qs h t ih=>
   rw[List.map_cons,List.map_cons]
   refine .cons ?_ ih
   obtain⟨h1,h2⟩:=h
   by_cases e:p.1=k
   . rw[if_pos e,if_pos (h1.symm.trans e)];exact⟨h1,ry⟩
   rw[if_neg e,if_neg (fun z=>e (h1.trans z))];exact⟨h1,h2⟩
theorem KV.put {kvs:List (κ×V)}{vs:List (κ×Value)}(r:KV kvs vs)(k:κ){y:V}{u:Value}(ry:RelV y u):KV (Dv kvs k y) (stored vs k u):=by
 unfold Dv stored
 rw[r.any k]
 by_cases e:(vs.any fun kv=>decide (kv.1=k))=true
 . rw[if_pos e,if_pos e];exact r.repl k ry
 rw[if_neg e,if_neg e];exact Paired.snoc r ⟨rfl,ry⟩
theorem KV.keys {kvs:List (κ×V)}{vs:List (κ×Value)}(r:KV kvs vs):kvs.map (·.1)=vs.map (·.1):=by
 unfold KV at r
 induction r with
 | nil=>rfl
 | cons h t ih=>rw[List.map_cons,List.map_cons,ih,h.1]
theorem KV.length {kvs:List (κ×V)}{vs:List (κ×Value)}(r:KV kvs vs):kvs.length=vs.length:=Paired.length r
end
theorem M6 {P:Program}{w:World}{k:Key}{u:Value}(r:RelV (kV k) u):(Ap P w).is k u=true:=by
 cases k with
 | inl i=>obtain⟨t,e⟩:=(show ∃ t,u=Value.int i t from r);subst e;exact Nw P w i t
 | inr x=>obtain⟨t,e⟩:=(show ∃ t,u=Value.str x t from r);subst e;exact Ou P w x t
theorem Ml {P:Program}{w:World}:∀ {ks:List Key} {us:List Value},Vals (ks.map kV) us->ItemsAre (Ap P w) ks us
 | [],_,r=>by rw[List.map_nil] at r;cases r;exact .nil
 | k :: ks,_,r=>by
   rw[List.map_cons] at r
   cases r with
   | cons h t=>exact .cons (M6 h) (Ml t)
abbrev KT (H:Hp):List (List Key×V)->List (List Key×Addr×Value)->Prop:=Paired fun p q=>p.1=q.1/\H q.2.1=some (.tup (p.1.map kV))/\RelV p.2 q.2.2
theorem KT.val {H:Hp}{kvs:List (List Key×V)}{xs:List (List Key×Addr×Value)}(r:KT H kvs xs)(k:List Key):RelO (Cg kvs k) ((atKey xs k).map (·.2)):=by
 induction r with
 | nil=>exact True.intro
 | @cons p q ps qs h t ih=>
   obtain⟨h1,_,h2⟩:=h
   by_cases e:p.1=k
   . have e':q.1=k:=h1.symm.trans e
     have b:atKey (q :: qs) k=some q.2:=by simp[atKey,List.find?_cons,e']
     rw[Ax e,b];exact h2
   have e':¬ q.1=k:=fun z=>e (h1.trans z)
   have b:atKey (q :: qs) k=atKey qs k:=by simp[atKey,List.find?_cons,e']
   rw[Aw e,b];exact ih
theorem KT.repl {H:Hp} {kvs:List (List Key×V)} {xs:List (List Key×Addr×Value)} (r:KT H kvs xs) (k:List Key) {y:V} {u:Value} (ry:RelV y u) :
  KT H (kvs.map fun kv=>if kv.1=k then(kv.1,y) else kv) (xs.map (putAt k u)):=by
 induction r with
 | nil=>exact .nil
 | @cons p q ps qs h t ih=>
   rw[List.map_cons,List.map_cons]
   refine .cons ?_ ih
   obtain⟨h1,h2,h3⟩:=h
   unfold putAt
   by_cases e:p.1=k
   . rw[if_pos e,if_pos (h1.symm.trans e)];exact⟨h1,h2,ry⟩
   rw[if_neg e,if_neg (fun z=>e (h1.trans z))];exact⟨h1,h2,h3⟩
theorem KT.put {H:Hp}{kvs:List (List Key×V)}{xs:List (List Key×Addr×Value)}(r:KT H kvs xs)(k:List Key){b:Addr}{y:V}{u:Value}(hb:H b=some (.tup (k.map kV)))(ry:RelV y u) :
  KT H (Dv kvs k y) (storedH xs k b u):=by
 have e:(kvs.any fun kv=>decide (kv.1=k))=(atKey xs k).isSome:=by
  rw[Fb,(r.val k).isSome_eq,Option.isSome_map]
 unfold Dv storedH
 rw[e]
 by_cases q:(atKey xs k).isSome=true
 . rw[if_pos q,if_pos q];exact r.repl k ry
 rw[if_neg q,if_neg q];exact Paired.snoc r ⟨rfl,hb,ry⟩
theorem KT.keeps {H H':Hp}{kvs:List (List Key×V)}{xs:List (List Key×Addr×Value)}(r:KT H kvs xs)(ht:∀ b ys,H b=some (.tup ys)->H' b=some (.tup ys)):KT H' kvs xs:=
 Paired.mapP r fun _ _ z=>⟨z.1,ht _ _ z.2.1,z.2.2⟩
section
variable {P:Program}{w:World}{H:Hp}{h:Heap}{a:Addr}
theorem af6 {u:HO}(ok:HOk P w H h)(e:Rd H a u):ObjOk P w H h a u:=e.ok ok
theorem Mo {kvs:List (Key×V)}(ok:HOk P w H h)(e:Rd H a (.dK kvs)):kvs.length<=sizeLine/\(a==sysModules)=false/\∃ vs,KV kvs vs/\h.DictOf (Ap P w) a vs:=
 show ObjOk P w H h a (.dK kvs) from af6 ok e
theorem Mb {kvs:List (Key×V)}(ok:HOk P w H h)(e:H a=some (.dK kvs)):kvs.length<=sizeLine/\(a==sysModules)=false/\∃ vs,KV kvs vs/\h.DictOf (Ap P w) a vs:=Mo ok (.inl e)
theorem Kk {ks:List Key}(ok:HOk P w H h)(e:H a=some (.tup (ks.map kV))):(tupleKind (Ap P w)).is h ks a:=by
 obtain⟨_,its,r,o,h1,h2,⟨n,h3⟩,_⟩:=(show ObjOk P w H h a (.tup (ks.map kV)) from ok a _ e)
 exact⟨o,its.toArray,n,h1,h2,h3,by simpa using Ml r⟩
theorem Oc {kvs:List (List Key×V)}(ok:HOk P w H h)(e:Rd H a (.dT kvs)):kvs.length<=sizeLine/\(a==sysModules)=false /\
  ∃ xs,KT H kvs xs/\h.DictOfH (tupleKind (Ap P w)) a xs:=by
 obtain⟨z,y,xs,r,o,es,ep,h1,h2,h3,h4,h5⟩:=(show ObjOk P w H h a (.dT kvs) from af6 ok e)
 refine⟨z,y,xs,r,o,es,ep,h1,h2,h3,h4,fun x hx=>?_,h5⟩
 have all:∀ {l:List (List Key×V)} {m:List (List Key×Addr×Value)},KT H l m->∀ x∈m,(tupleKind (Ap P w)).is h x.1 x.2.1:=by
  intro l m q
  induction q with
  | nil=>intro x hx;exact nomatch hx
  | @cons p q ps qs hq t ih=>
    intro x hx
    rcases List.mem_cons.mp hx with e | hx
    . subst e
      exact Kk ok (by rw[<- hq.1];exact hq.2.1)
    exact ih x hx
 exact all r x hx
theorem ak0 {kvs:List (List Key×V)}(ok:HOk P w H h)(e:H a=some (.dT kvs)):kvs.length<=sizeLine/\(a==sysModules)=false /\
  ∃ xs,KT H kvs xs/\h.DictOfH (tupleKind (Ap P w)) a xs:=Oc ok (.inl e)
end
def DGet (H:Hp)(a:Addr)(y:V)(r:Option V):Prop:=
 (∃ kvs k,Rd H a (.dK kvs)/\y=kV k/\r=Cg kvs k)\/∃ kvs k b,Rd H a (.dT kvs)/\y = .ref b/\H b=some (.tup (k.map kV))/\r=Cg kvs k
def DPut (H:Hp)(a:Addr)(y v:V)(H':Hp):Prop:=
 (∃ kvs k,H a=some (.dK kvs)/\y=kV k/\kvs.length<sizeLine/\H'=upd H a (.dK (Dv kvs k v))) \/
 ∃ kvs k b,H a=some (.dT kvs)/\y = .ref b/\H b=some (.tup (k.map kV))/\kvs.length<sizeLine/\H'=upd H a (.dT (Dv kvs k v))
theorem DGet.k {H:Hp}{a:Addr}{kvs:List (Key×V)}{k:Key}(e:H a=some (.dK kvs)):DGet H a (kV k) (Cg kvs k):=.inl ⟨kvs,k,.inl e,rfl,rfl⟩
theorem DPut.k {H:Hp}{a:Addr}{kvs:List (Key×V)}{k:Key}{v:V}(e:H a=some (.dK kvs))(hl:kvs.length<sizeLine):DPut H a (kV k) v (upd H a (.dK (Dv kvs k v))):=.inl ⟨kvs,k,e,rfl,hl,rfl⟩
section
variable {X:Cx}{pins:List (Addr×Obj)}{σ:St}{H:Hp}{s:Shared}{a:Addr}{y v:V}{u r:Value}{o:Option V}{A:Around}{E:Value->Shared->Prop}
theorem Inv.big (I:Inv X pins σ H s):sysModules<s.heap.objs.size:=by
 have h:mainGlobals<s.heap.objs.size:=(I.mod.glob.keeps I.bk).lt
 exact Nat.lt_trans (by decide) h
theorem Tu {Q:Value->Shared->Prop}(hu:A.units+1<cLine)(I:Inv X pins σ H s)(g:DGet H a y (some v))(ry:RelV y u)(h:∀ w' s',Inv X pins σ H s'->RelV v w'->Q w' s') :
  wpAny (model X.prog X.w) A (getItem (.ref a) u) Q E s:=by
 rcases g with ⟨kvs,k,e,ey,l⟩ | ⟨kvs,k,b,e,ey,eb,l⟩
 . subst ey
   obtain⟨z,hd,vs,rel,dd⟩:=Mo I.hok e
   obtain⟨w',hw,rw'⟩:=RelO.some_of (v:=v) (o:=valueAt vs k) (by rw[l];exact rel.val k)
   exact wpAny_getItem_of (M6 ry) dd.mapOf hw (h w' _ (I.tok _) rw')
 subst ey
 cases (show u=Value.ref b from ry)
 obtain⟨z,hd,xs,rel,dd⟩:=Oc I.hok e
 obtain⟨w',hw,rw'⟩:=RelO.some_of (v:=v) (o:=(atKey xs k).map (·.2)) (by rw[l];exact rel.val k)
 obtain⟨p,hp,hp2⟩:=Option.map_eq_some_iff.mp hw
 refine wpAny_getItem_heap (tupleKind_room_in1 hu) (Kk I.hok eb) dd hp ?_
 rw[hp2]
 exact h w' _ (I.tok _) rw'
theorem d_in {Q:Value->Shared->Prop}(hu:A.units+1<cLine)(I:Inv X pins σ H s)(g:DGet H a y o)(ry:RelV y u)(h:∀ s',Inv X pins σ H s'->Q (.bool o.isSome) s') :
  wpAny (model X.prog X.w) A (compareOp .In u (.ref a)) Q E s:=by
 rcases g with ⟨kvs,k,e,ey,l⟩ | ⟨kvs,k,b,e,ey,eb,l⟩
 . subst ey
   obtain⟨z,hd,vs,rel,dd⟩:=Mo I.hok e
   refine wpAny_in_of (M6 ry) hd dd.mapOf ?_
   rw[<- (rel.val k).isSome_eq,<- l]
   exact h _ (I.tok _)
 subst ey
 cases (show u=Value.ref b from ry)
 obtain⟨z,hd,xs,rel,dd⟩:=Oc I.hok e
 refine wpAny_in_heap (tupleKind_room_in1 hu) (Kk I.hok eb) hd dd ?_
 have q:=(rel.val k).isSome_eq
 rw[Option.isSome_map] at q
 rw[<- q,<- l]
 exact h _ (I.tok _)
theorem Z6 {Q:Value->Shared->Prop}(hu:A.units+1<cLine)(I:Inv X pins σ H s)(g:DGet H a y o)(ry:RelV y u)(h:∀ s',Inv X pins σ H s'->Q (.bool (!o.isSome)) s') :
  wpAny (model X.prog X.w) A (compareOp .NotIn u (.ref a)) Q E s:=by
 rcases g with ⟨kvs,k,e,ey,l⟩ | ⟨kvs,k,b,e,ey,eb,l⟩
 . subst ey
   obtain⟨z,hd,vs,rel,dd⟩:=Mo I.hok e
   refine wpAny_notIn_of (M6 ry) hd dd.mapOf ?_
   rw[<- (rel.val k).isSome_eq,<- l]
   exact h _ (I.tok _)
 subst ey
 cases (show u=Value.ref b from ry)
 obtain⟨z,hd,xs,rel,dd⟩:=Oc I.hok e
 refine wpAny_notIn_heap (tupleKind_room_in1 hu) (Kk I.hok eb) hd dd ?_
 have q:=(rel.val k).isSome_eq
 rw[Option.isSome_map] at q
 rw[<- q,<- l]
 exact h _ (I.tok _)
theorem L4 {h':Heap}{t':Nat}{ob:HO}(I:Inv X pins σ H s)(mu:Mut (H a))(hs:Heap.SameBut a s.heap h')(he:∃ q,h'.get? a=some q)(new:ObjOk X.prog X.w (upd H a ob) h' a ob) :
  Inv X pins σ (upd H a ob) { s with heap:=h',toks:=t' }:=
 I.write (x:=a) (e:=a) mu (.inl rfl) (fun b q hb z=>(hs.2 b hb).trans z) he new
theorem Qd {P:Program}{w:World}{H':Hp}{h':Heap}{kvs:List (Key×V)}{vs:List (Key×Value)}(z:kvs.length<=sizeLine)(hd:(a==sysModules)=false)(rel:KV kvs vs)(dd:h'.DictOf (Ap P w) a vs) :
  ObjOk P w H' h' a (.dK kvs):=⟨z,hd,vs,rel,dd⟩
theorem Sj {H':Hp}{Q:Unit->Shared->Prop}(hu:A.units+1<cLine)(I:Inv X pins σ H s)(g:DPut H a y v H')(ry:RelV y u)(rv:RelV v r)(h:∀ s',Inv X pins σ H' s'->Q () s') :
  wpAny (model X.prog X.w) A (setItem (.ref a) u r) Q E s:=by
 rcases g with ⟨kvs,k,e,ey,l,eH⟩ | ⟨kvs,k,b,e,ey,eb,l,eH⟩
 . subst ey eH
   obtain⟨z,hd,vs,rel,dd⟩:=Mb I.hok e
   have hz:vs.length<=sizeLine:=by rw[<- rel.length];exact z
   have hl:(Dv kvs k v).length<=sizeLine:=by have:=Gh kvs k v;omega
   refine wpAny_setItem_pairs (hsz:=hz) (M6 ry) dd fun h' dd' hs=>h _ ?_
   have he:∃ q,h'.get? a=some q:=let ⟨q,_,_,hq,_⟩:=dd';⟨q,hq⟩
   exact L4 I (by rw[e];exact True.intro) hs he (Qd hl hd (rel.put k rv) dd')
 subst ey eH
 cases (show u=Value.ref b from ry)
 obtain⟨z,hd,xs,rel,dd⟩:=ak0 I.hok e
 have hz:xs.length<=sizeLine:=by rw[<- Paired.length rel];exact z
 have hl:(Dv kvs k v).length<=sizeLine:=by have:=Gh kvs k v;omega
 refine wpAny_setItem_heap (hsz:=hz) (tupleKind_room_in1 hu) (Kk I.hok eb) dd fun h' dd' hs=>h _ ?_
 obtain⟨q,es,ep,hq,h2,h3,h4,_,h5⟩:=dd'
 refine L4 I (by rw[e];exact True.intro) hs ⟨q,hq⟩ ⟨hl,hd,_,(rel.put k eb rv).keeps fun c ys ec=>?_,q,es,ep,hq,h2,h3,h4,h5⟩
 rw[Aq (ne_of ec e (fun z=>nomatch z))]
 exact ec
end
section
variable {X:Cx}{pins:List (Addr×Obj)}{σ:St}{H:Hp}{s:Shared}{a:Addr}{kvs:List (Key×V)}{k:Key}{u:Value}{A:Around}{E:Value->Shared->Prop}
theorem aj2 {Q:Value->Shared->Prop}(I:Inv X pins σ H s)(e:Rd H a (.dK kvs))(h:∀ t s',Inv X pins σ H s'->Q (.int kvs.length t) s'):wpAny (model X.prog X.w) A (call (.builtin "len") [.ref a]) Q E s:=by
 obtain⟨z,hd,vs,rel,dd⟩:=Mo I.hok e
 refine call_len_dict hd dd (by rw[<- rel.length];rw[sizeLine_eq] at z;omega) ?_
 rw[<- rel.length]
 exact h _ _ (I.tok _)
end
theorem Pg {X:Cx}{pins:List (Addr×Obj)}{σ:St}{H:Hp}{s:Shared}{a:Addr}{y:V}{o:Option V}(I:Inv X pins σ H s)(g:DGet H a y o):s.TypeIs (.ref a) "dict":=by
 rcases g with ⟨kvs,k,e,_,_⟩ | ⟨kvs,k,b,e,_,_,_⟩
 . obtain⟨_,_,vs,_,dd⟩:=Mo I.hok e
   exact dd.typeIs
 obtain⟨_,_,xs,_,dd⟩:=Oc I.hok e
 exact dd.typeIs
def a83 (td ty tv:TE):TS:=fun D σ H=>tv σ H fun v H1=>td σ H1 fun x H2=>ty σ H2 fun y H3=>∃ a H4,x = .ref a/\DPut H3 a y v H4/\D.nx σ H4
section
variable {X:Cx}{o i e value:Expr}{pos pos' tpos:Pos}{td ty tv:TE}
theorem Eg (hu:X.A.units+1<cLine)(ho:PE X o td)(hi:PE X i ty)(hv:PE X value tv)(hs:swapsWith value (some (.Subscript o i pos')) pos.line X.env=pure false) :
  PS X (.Assign [.Subscript o i pos'] value pos) (a83 td ty tv):=by
 intro pins s σ H D I h
 refine wpAny_Assign_Subscript (thn (hv pins s σ H _ I h) fun r s1 ⟨v,H1,I1,rv,q1⟩=>thn (ho pins s1 σ H1 _ I1 q1) fun u s2 ⟨x,H2,I2,rx,q2⟩=>thn (hi pins s2 σ H2 _ I2 q2) fun iv s3 ⟨y,H3,I3,ry,a,H4,ex,g,q3⟩=>?_) hs
 subst ex
 obtain rfl:u=Value.ref a:=rx
 exact Sj hu I3 g ry rv fun s4 I4=>⟨σ,H4,I4,q3⟩
end
theorem Pn {P:Program}{w:World}{H:Hp}(h:Heap)(hb:sysModules<h.objs.size):ObjOk P w H (h.push { cls:=.type "dict",data:=.dict #[] }) h.objs.size (.dK []):=
 ⟨Nat.zero_le _,beq_eq_false_iff_ne.mpr (Ne.symm (Nat.ne_of_lt hb)),[],.nil,Heap.DictOf.new h⟩
def Yu:TE:=fun _ H Q=>∀ p,H p=none->Q (.ref p) (upd H p (.dK []))
section
variable {X:Cx}{pos:Pos}
theorem Ku:PE X (.Dict [] [] pos) Yu:=fun pins s σ H Q I h=>
 wpAny_Dict_empty ⟨.ref s.heap.objs.size,_,I.laid (a:=s.heap.objs.size) (o:=.dK []) (t':=s.toks) (fun _ _ q=>Heap.get?_push_of_some _ q) (Nat.le_refl _) (Pn s.heap I.big),rfl,h _ (I.hok.fresh (Nat.le_refl _))⟩
end
def Jf:List (TE×TE)->St->Hp->(List (V×V)->Hp->Prop)->Prop
 | [],_,H,Q=>Q [] H
 | (tk,tv) :: r,σ,H,Q=>tk σ H fun x H1=>tv σ H1 fun y H2=>Jf r σ H2 fun ps H3=>Q ((x,y) :: ps) H3
abbrev VV:List (V×V)->List (Value×Value)->Prop:=Paired fun p q=>RelV p.1 q.1/\RelV p.2 q.2
def PPs (X:Cx)(pos:Pos)(keys:List (Option Expr))(values:List Expr)(trs:List (TE×TE)):Prop:=
 ∀(pins:List (Addr×Obj)) (s:Shared) (σ:St) (H:Hp) (Q:List (V×V)->Hp->Prop),Inv X pins σ H s->Jf trs σ H Q ->
  wpAny (model X.prog X.w) X.A (evalPairs (pairTrees keys values X.env pos)) (fun vs s'=>∃ ps H',Inv X pins σ H' s'/\VV ps vs/\Q ps H') X.xe s
theorem Oq {X:Cx}{pos:Pos}:PPs X pos [] [] []:=fun pins s σ H Q I h=>pairTrees_nil_walk ⟨[],H,I,.nil,h⟩
theorem G3 {X:Cx}{pos:Pos}{k v:Expr}{ks:List (Option Expr)}{vs:List Expr}{tk tv:TE}{trs:List (TE×TE)}(hk:PE X k tk)(hv:PE X v tv)(hr:PPs X pos ks vs trs) :
  PPs X pos (some k :: ks) (v :: vs) ((tk,tv) :: trs):=fun pins s σ H Q I h=>
 pairTrees_cons_walk (thn (hk pins s σ H _ I h) fun u s1 ⟨x,H1,I1,rx,q1⟩=>thn (hv pins s1 σ H1 _ I1 q1) fun w2 s2 ⟨y,H2,I2,ry,q2⟩=>
  thn (hr pins s2 σ H2 _ I2 q2) fun ws s3 ⟨ps,H3,I3,rel,q3⟩=>⟨(x,y) :: ps,H3,I3,.cons ⟨rx,ry⟩ rel,q3⟩)
def Dw (kvs more:List (Key×V)):List (Key×V):=more.foldl (fun acc kv=>Dv acc kv.1 kv.2) kvs
theorem KV.merge:∀ {more:List (Key×V)} {rs:List (Key×Value)} {kvs:List (Key×V)} {vs:List (Key×Value)},KV more rs->KV kvs vs->KV (Dw kvs more) (merged vs rs):=by
 intro more rs kvs vs r
 unfold KV at r
 induction r generalizing kvs vs with
 | nil=>intro q;exact q
 | @cons p q ps qs h t ih=>
   intro r0
   have e:KV (Dv kvs p.1 p.2) (stored vs q.1 q.2):=by
    have:=r0.put p.1 h.2
    rw[<- h.1];exact this
   exact ih e
theorem Dq:∀(more kvs:List (Key×V)),(Dw kvs more).length<=kvs.length+more.length
 | [],kvs=>by show kvs.length<=kvs.length+0;omega
 | p :: r,kvs=>by
   have h1:=Dq r (Dv kvs p.1 p.2)
   have h2:=Gh kvs p.1 p.2
   show(Dw (Dv kvs p.1 p.2) r).length<=_
   rw[List.length_cons];omega
theorem Kg {P:Program}{w:World}:∀ {kvs:List (Key×V)} {ws:List (Value×Value)},VV (kvs.map fun kv=>(kV kv.1,kv.2)) ws->∃ rs,Carries (Ap P w) ws rs/\KV kvs rs
 | [], _,r=>by rw[List.map_nil] at r;cases r;exact⟨[],True.intro,.nil⟩
 | p :: kvs,_,r=>by
   rw[List.map_cons] at r
   cases r with
   | @cons a b as bs h t=>
     obtain⟨rs,c,q⟩:=Kg (P:=P) (w:=w) t
     obtain⟨b1,b2⟩:=b
     exact⟨(p.1,b2) :: rs,⟨M6 h.1,rfl,c⟩,.cons ⟨rfl,h.2⟩ q⟩
def a70 (trs:List (TE×TE)):TE:=fun σ H Q=>∀ p,H p=none->Jf trs σ (upd H p (.dK [])) fun ps H2=>H2 p=some (.dK [])/\∃ kvs:List (Key×V),ps=kvs.map (fun kv=>(kV kv.1,kv.2))/\kvs.length<=15/\Q (.ref p) (upd H2 p (.dK (Dw [] kvs)))
theorem Ov {X:Cx}{pos:Pos}{keys:List (Option Expr)}{values:List Expr}{trs:List (TE×TE)}(h:PPs X pos keys values trs)(hall:keys.all (·.isSome)=true)(hl:keys.length=values.length)(h0:keys≠[])
  (h15:keys.length<=15):PE X (.Dict keys values pos) (a70 trs):=by
 intro pins s σ H Q I q
 have hn:=I.hok.fresh (Nat.le_refl s.heap.objs.size)
 have I1:=I.laid (a:=s.heap.objs.size) (o:=.dK []) (h':=s.heap.push { cls:=.type "dict",data:=.dict #[] }) (t':=s.toks) (fun _ _ q=>Heap.get?_push_of_some _ q) (Nat.le_refl _) (Pn s.heap I.big)
 refine wpAny_Dict_walk (knd:=Ap X.prog X.w) hall hl h0 h15 (thn (h pins _ σ _ _ I1 (q _ hn)) fun ws s2 ⟨ps,H2,I2,rel,e,kvs,ep,lk,q2⟩=>?_)
 subst ep
 obtain⟨rs,c,rk⟩:=Kg (P:=X.prog) (w:=X.w) rel
 obtain⟨z,hd,vs0,r0,dd⟩:=Mb I2.hok e
 cases r0
 refine⟨rs,c,dd,fun h' dd' hs=>⟨.ref s.heap.objs.size,_,?_,rfl,q2⟩⟩
 have hz:(Dw [] kvs).length<=sizeLine:=by
  have h1:=Dq kvs []
  rw[List.length_nil] at h1
  rw[sizeLine_eq];omega
 have he:∃ q,h'.get? s.heap.objs.size=some q:=let ⟨q,_,_,hq,_⟩:=dd';⟨q,hq⟩
 exact L4 I2 (by rw[e];exact True.intro) hs he (Qd hz hd (rk.merge .nil) dd')
structure M2 (X:Cx)(o:Expr)(m:Str)(apos:Pos)(e f:Expr)(cpos:Pos):Prop where
 base:attributeBase o m X.env (eval o X.env)=eval o X.env
 few:((backTo cpos (starEach [e,f] X.env)).all (fun x=>!x.1)&&(backToKw cpos (keywordEach [] X.env)).all (fun x=>x.1.isSome)
  && decide (([e,f]:List Expr).length+([]:List Keyword).length+(if([]:List Keyword).isEmpty then 0 else 1)<30))=true
 line:(apos.endLine==cpos.line)=true
 trees:backTo cpos (starEach [e,f] X.env)=[(false,eval e X.env),(false,eval f X.env)]
def IsD (H:Hp)(a:Addr):Prop:=(∃ kvs,Rd H a (.dK kvs))\/∃ kvs,Rd H a (.dT kvs)
theorem a76 {X:Cx}{pins:List (Addr×Obj)}{σ:St}{H:Hp}{s:Shared}{a:Addr}(I:Inv X pins σ H s)(d:IsD H a) :
  s.TypeIs (.ref a) "dict" /\ (∀ b,Value.ref a = .ref b->∃ ob,s.heap.get? b=some ob/\ob.dict=none)/\(a==sysModules)=false:=by
 rcases d with ⟨kvs,e⟩ | ⟨kvs,e⟩
 . obtain⟨_,hd,vs,_,dd⟩:=Mo I.hok e
   refine⟨dd.typeIs,fun b q=>?_,hd⟩
   cases q
   obtain⟨ob,_,_,h1,h2,_⟩:=dd
   exact⟨ob,h1,h2.2.1⟩
 obtain⟨_,hd,xs,_,dd⟩:=Oc I.hok e
 refine⟨dd.typeIs,fun b q=>?_,hd⟩
 cases q
 obtain⟨ob,_,_,h1,h2,_⟩:=dd
 exact⟨ob,h1,h2.2.1⟩
section
variable {X:Cx}{pins:List (Addr×Obj)}{σ:St}{H:Hp}{s:Shared}{a:Addr}{y d:V}{u r:Value}{o:Option V}{A:Around}{E:Value->Shared->Prop}
theorem ag6 {Q:Value->Shared->Prop}(hu:A.units+1<cLine)(I:Inv X pins σ H s)(g:DGet H a y o)(ry:RelV y u)(rd:RelV d r)(h:∀ w' s',Inv X pins σ H s'->RelV (o.getD d) w'->Q w' s') :
  wpAny (model X.prog X.w) A (call (.builtin "dict.get") [.ref a,u,r]) Q E s:=by
 rcases g with ⟨kvs,k,e,ey,l⟩ | ⟨kvs,k,b,e,ey,eb,l⟩
 . subst ey
   obtain⟨z,hd,vs,rel,dd⟩:=Mo I.hok e
   refine call_meetsIn PySem.F.slot_dict_get dd.typeIs PySem.F.entry_dict_get (PySem.F.args_dict_get_3 _ _ _) (meets_dict_get_default (Ap X.prog X.w) a (M6 ry) hd r) ⟨_,dd.mapOf,h _ _ (I.tok _) ?_⟩
   rw[l]
   exact(rel.val k).getD rd
 subst ey
 cases (show u=Value.ref b from ry)
 obtain⟨z,hd,xs,rel,dd⟩:=Oc I.hok e
 refine call_meetsIn PySem.F.slot_dict_get dd.typeIs PySem.F.entry_dict_get (PySem.F.args_dict_get_3 _ _ _) (meetsH_dict_get_default (tupleKind (Ap X.prog X.w)) a b hd r) ⟨tupleKind_room_in1 hu,k,xs,Kk I.hok eb,dd,h _ _ (I.tok _) ?_⟩
 rw[l]
 exact(rel.val k).getD rd
end
def Y7 (td ty tx:TE):TE:=fun σ H Q=>td σ H fun x H1=>∃ a,x = .ref a/\IsD H1 a/\ty σ H1 fun y H2=>tx σ H2 fun z H3=>∃ o,DGet H3 a y o/\Q (o.getD z) H3
section
variable {X:Cx}{o e f:Expr}{apos cpos:Pos}{td ty tx:TE}
theorem Xl (hu:X.A.units+1<cLine)(ho:PE X o td)(he:PE X e ty)(hf:PE X f tx)(m:M2 X o "get" apos e f cpos):PE X (.Call (.Attribute o "get" apos) [e,f] [] cpos) (Y7 td ty tx):=by
 intro pins s σ H Q I h
 refine wpAny_Call_method m.base m.few m.line PySem.F.plainAttrs_dict PySem.F.slot_dict_get PySem.F.type_dict_get (thn (ho pins s σ H _ I h) fun u s1 ⟨x,H1,I1,rx,a,ex,d,q1⟩=>?_)
 subst ex
 obtain rfl:u=Value.ref a:=rx
 obtain⟨t1,t2,_⟩:=a76 I1 d
 refine⟨t1,t2,?_⟩
 rw[m.trees]
 refine Calls.callWith_builtin rfl (Calls.evalArgs_plain (Calls.spliced_cons (thn (he pins s1 σ H1 _ I1 q1) fun iv s2 ⟨y,H2,I2,ry,q2⟩=>
  Calls.spliced_cons (thn (hf pins s2 σ H2 _ I2 q2) fun fv s3 ⟨z,H3,I3,rz,ov,g,q3⟩=>Calls.spliced_nil ?_))))
 exact ag6 hu I3 g ry rz fun w' s4 I4 rw'=>⟨_,H3,I4,rw',q3⟩
end
section
variable {X:Cx}{pins:List (Addr×Obj)}{σ:St}{H:Hp}{s:Shared}{a:Addr}{kvs:List (Key×V)}{A:Around}{E:Value->Shared->Prop}
end
section
variable {X:Cx}{pins:List (Addr×Obj)}{σ:St}{H:Hp}{s:Shared}{a:Addr}{y:V}{u:Value}{A:Around}{E:Value->Shared->Prop}
end
end L2
namespace Att
open PySem PySem.W PySem.Calls PyProof.Rows
theorem Jo {P:Params}{h:Heap}:∀(ns:List Int) (vs:List Value),WellAll P h vs (ns.map WData.int)->IntsAre vs ns:=by
 intro ns
 induction ns with
 | nil=>
   intro vs w
   rw[List.map_nil] at w
   cases w
   exact .nil
 | cons n ns ih=>
   intro vs w
   rw[List.map_cons] at w
   cases w with
   | cons a b=>
     cases a
     exact .cons _ _ (ih _ b)
theorem Sn {l:OpenLaw}{n:Nat}(hn:l.most=some n){P:Params}{h:Heap}{args:List WData}{vals:List Value}
  (hpre:l.row.toRowW.claim.pre args=true) (hwl:WellAll P h vals args) :
  ∃ a vs ns,vals=[Value.ref a]/\args=[WData.list (ns.map WData.int)]/\h.get? a=some { cls:=.type "list",data:=.seq vs.toArray }/\IntsAre vs ns/\ns.length<=n:=by
 have hsh:WShape.hasAll [] args [.list .int]=true:=(pre_splitW hpre).1
 have hc:l.pre.holds [] { args:=args }=true:=(pre_splitW hpre).2
 obtain⟨d,r,rfl,h1,h2⟩:=hasAllW_cons hsh
 obtain rfl:=hasAllW_nil h2
 obtain⟨xs,rfl,h3⟩:=hasW_list h1
 obtain⟨ns,rfl⟩:=items_int h3
 have hlen:ns.length<=n:=by
  unfold OpenLaw.pre at hc
  have h4:(WTm.not (.lt (.lit (.int (n:Int))) (.len (.arg 0)))).holds [] { args:=[.list (ns.map .int)] }=true:=by
   have h4:=(holds_andW hc).1
   rw[hn] at h4
   exact h4
  have h5:=condW_of h4 (w_not (w_lt w_lit (w_len_list (w_arg rfl))))
  rw[List.length_map] at h5
  refine Nat.le_of_not_lt fun q=>?_
  have q':(n:Int)<((ns.length:Nat):Int):=by omega
  first
   | (rw[decide_eq_true q'] at h5;exact absurd h5 (by decide))
   | (simp at h5;omega)
 cases hwl with
 | cons w1 w2=>
   cases w2
   cases w1 with
   | list ho hall=>exact⟨_,_,ns,rfl,rfl,ho,Jo ns _ hall,hlen⟩
theorem Vl (l:OpenLaw)(args:List WData):l.row.toRowW.claim.post args (.bool true) args=true:=
 postW_of (r:=l.row.toRowW) (X:=(true==true))
  (show WShape.has [] (.bool true) .bool=true by first | rfl | decide | simp[WShape.has,WShape.arms,WShape.armsAll])
  (show(WTm.eq .res (.lit (.bool true))).value [] { args:=args,res:=some (.bool true),after:=args }=some (.bool (true==true)) from w_eq_bool (w_res rfl) w_lit) rfl
theorem attach_call {l:OpenLaw}{n:Nat}{q:Program}{loose:List Str}{XP:(Str->Option Value)->Heap->Prop}{YP:World->Heap->Prop}{d:DefRec}
  (hn:l.most=some n) (hdf:d.params.defaults=[])
  (call:∀(w:World) (s₀ s₁:Shared) (mg mb:Str->Option Value) (fa:Addr) (o:Obj) (pm cd doc:Value) (a:Addr) (vs:List Value) (ns:List Int),
   Ground q loose [] XP w s₀ mg mb s₁.heap->YP w s₁.heap ->
   s₁.heap.get? fa=some o->o.data = .func (docDef d.name d.params d.body d.scope pm cd doc)->s₁.heap.CodeRec cd d.name->mg d.name=some (.ref fa) ->
   s₁.heap.get? a=some { cls:=.type "list",data:=.seq vs.toArray }->IntsAre vs ns->ns.length<=n->s₁.gens = #[] ->
   codeAny (model l.prog w) callerA (.call (.ref fa) ⟨[.ref a],[]⟩) (fun r s'=>r = .ok (.ret (.bool true))/\OldK s₁.heap s'.heap/\s'.os=s₁.os/\AllBare s'.gens) s₁) :
  WalkO q loose XP YP l.row.toRowW d [] (fun f vs=>PySem.call f vs):=by
 intro w s₀ s₁ mg mb G Y fa o pm cd doc dV kV ho hd hcd hD hmg hg args vals as hpre hlay hrd hwl hlo
 obtain rfl:dV = .none:=Dflts.none hD hdf
 obtain rfl:kV = .none:=Dflts.noKw hD
 obtain⟨a,vs,ns,rfl,rfl,hobj,hints,hlen⟩:=Sn hn hpre hwl
 refine enter_call (codeAny_mono (call w s₀ s₁ mg mb fa o pm cd doc a vs ns G Y ho (fd_plain hd) hcd hmg hobj hints hlen hg) fun r s' hq=>?_)
 obtain⟨rfl,h2,h3,h4⟩:=hq
 exact⟨.inl ⟨.bool true,.bool true,[],rfl,fun _=>rfl,.bool true,Vl l _,fun _=>⟨List.Pairwise.nil,fun _ hm=>(nomatch hm)⟩⟩,h2,h3,h4⟩
section
variable {prog:Program}{w:World}{A:Around}{E:Value->Shared->Prop}{s:Shared}{K:Frag}
end
end Att
namespace L2
open PySem PySem.Spec PyProof.Rows
theorem M9:∀ {vs:List Value} {ns:List Int},IntsAre vs ns->Vals (ns.map V.int) vs
 | _,_,.nil=>.nil
 | _,_,.cons n t h=>.cons ⟨t,rfl⟩ (M9 h)
def Ob (s:Stmt)(j:Nat):Stmt:=match s with
 | .ClassDef _ _ _ body _ _ _ _ _ _ _=>body.getD j (.Pass ⟨0,0,0,0⟩)
 | _=>.Pass ⟨0,0,0,0⟩
def Ai (s:Stmt):Arguments:=match s with
 | .FunctionDef _ a _ _ _ _ _ _ _ _=>a
 | _=>{ posonlyargs:=[],args:=[],vararg:=none,kwonlyargs:=[],kw_defaults:=[],kwarg:=none,defaults:=[] }
def Af (s:Stmt):List Stmt:=match s with
 | .FunctionDef _ _ b _ _ _ _ _ _ _=>b
 | _=>[]
def A4 (s:Stmt):Scope:=match s with
 | .FunctionDef _ _ _ _ _ _ sc _ _ _=>sc
 | _=>{ kind:=.function,names:=[],isGenerator:=false,isCoroutine:=false }
abbrev CX0:CXT:=fun _ _ _ _ _ _=>False
abbrev E0:XK:=fun _ _ _=>False
theorem Zz {X:Cx}:Ki CX0 X E0:=fun _ _ _ _ _ _ _ h=>h.elim
structure Fun (K:PySem.W.Frag)(x qual:Str)(st:Stmt)(f:Addr)(fd:FuncData):Prop where
 ex:∃(oc:Value) (od:Option Addr) (kV doc pm:Value) (an:Option Addr) (cdv ct:Value) (osl:Array (Option Value)),
  fd=PySem.W.fnOf x qual (Ai st) (Af st) (A4 st) .none kV doc pm an cdv ct/\K.lookup f=some ⟨oc,od,.func fd,osl⟩/\PySem.W.codeIn K cdv qual=true
 kp:PySem.W.keepIn K (.ref f)=true
section
variable {P:Program}{w:World}{K:PySem.W.Frag}{mg:Str->Option Value}{base:Heap}
theorem Fun.ok {x qual:Str}{st:Stmt}{f:Addr}{fd:FuncData}{N ps:List Str}{k:Nat}{sp:Sp}(F:Fun K x qual st f fd)(S:Al N ps (A4 st))(len:∀ vs H Q E,sp vs H Q E->vs.length=ps.length)
  (hbody:∀(cdv:Value) (A:Around) (outer:List Env) (s:Shared) (H:Hp) (vs:List V) (Q:VK) (E:XK),Room k (A.deeper (envOfC qual (A4 st) s.heap.objs.size f cdv))->sp vs H Q E ->
   ∃ t,PSs (Ze CX0 P w K mg base N qual (A4 st) f cdv A outer s H E).nox (Af st) t/\t { nx:=fun _ H'=>Q .non H',rt:=Q } (start N vs) H):FnOk P w K mg base CX0 (k+1) f fd ps sp:=by
 obtain⟨oc,od,kV,doc,pm,an,cdv,ct,osl,rfl,lk,hcd⟩:=F.ex
 refine a84 lk hcd S len fun A outer s H vs Q E hr hsp=>?_
 obtain⟨t,h,q⟩:=hbody cdv A outer s H vs Q E hr hsp
 exact⟨t,h.nox,q⟩
theorem Fun.binds {x qual:Str}{st:Stmt}{f:Addr}{fd:FuncData}{ps:List Str}(F:Fun K x qual st f fd)
  (h:∀(kV doc pm:Value) (an:Option Addr) (cdv ct:Value) (us:List Value),us.length=ps.length->bindArgs (PySem.W.fnOf x qual (Ai st) (Af st) (A4 st) .none kV doc pm an cdv ct) ⟨us,[]⟩=pure (ps.zip us)):Binds K fd ps []:=by
 obtain⟨oc,od,kV,doc,pm,an,cdv,ct,osl,rfl,lk,hcd⟩:=F.ex
 exact .all (h kV doc pm an cdv ct)
theorem Bh {x qual:Str}{st:Stmt}{f:Addr}{oc:Value}{od an:Option Addr}{osl:Array (Option Value)}{kV doc pm cdv ct:Value}(l:K.lookup f=some ⟨oc,od,.func (PySem.W.fnOf x qual (Ai st) (Af st) (A4 st) .none kV doc pm an cdv ct),osl⟩)
  (c:PySem.W.codeIn K cdv qual=true) (k:PySem.W.keepIn K (.ref f)=true):Fun K x qual st f (PySem.W.fnOf x qual (Ai st) (Af st) (A4 st) .none kV doc pm an cdv ct):=⟨⟨oc,od,kV,doc,pm,an,cdv,ct,osl,rfl,l,c⟩,k⟩
end
theorem Cm {A:Around}{k:Nat}(hr:Room k A):A.units+1<cLine:=Nat.lt_of_le_of_lt (Nat.add_le_add_left (by decide:1<=64) _) hr.units
theorem W2 {n:Nat}(h:n<=1000):n<sizeLine:=Nat.lt_of_le_of_lt h (by decide)
section
variable {X:Cx}
theorem pv (i:Nat){x:Str}{pos:Pos}(hN:X.N[i]? = some x:=by ac_nf)(hv:Vis X.env.scope x:=by with_unfolding_all first | exact Or.inl rfl | exact Or.inr (Or.inl rfl) | exact Or.inr (Or.inr rfl))(hd:(x==("__debug__":Str))=false:=by decide)
  (hcd:(x==("__classdict__":Str))=false:=by decide):PE X (.Name x pos) (ak7 i):=ad7 hN hv hd hcd
end
theorem iteF {A B:Prop}(h:B):if false=true then A else B:=by
 rw[if_neg Bool.false_ne_true]
 exact h
theorem iteT {A B:Prop}(h:A):if true=true then A else B:=by
 rw[if_pos rfl]
 exact h
theorem an9 {c A B:Prop}[Decidable c](h1:c->A)(h2:¬ c->B):if c then A else B:=by
 by_cases h:c
 . rw[if_pos h]
   exact h1 h
 rw[if_neg h]
 exact h2 h
def Same (H H':Hp):Prop:=∀ b o,H b=some o->H' b=some o
theorem Same.refl (H:Hp):Same H H:=fun _ _ h=>h
theorem Same.trans {H H1 H2:Hp} (a:Same H H1) (b:Same H1 H2):Same H H2:=fun c o h=>b c o (a c o h)
theorem Same.free {H H':Hp}(e:Same H H'){l:Addr}(h:H' l=Option.none):H l=Option.none:=by
 cases q:H l with
 | none=>rfl
 | some o=>
   rw[e l o q] at h
   cases h
theorem Same.seq {K:PySem.W.Frag}{H H':Hp}{a:Addr}{xs:List V}(e:Same H H')(h:SqL K H a xs):SqL K H' a xs:=by
 rcases h with (h | ⟨o,h⟩) | h
 . exact .inl (.inl (e _ _ h))
 . exact .inl (.inr ⟨o,e _ _ h⟩)
 exact .inr h
section
variable {X:Cx}
theorem Ts:CallR X (.builtin "len") (fun xs H Q=>∃ a kvs,xs=[V.ref a]/\H a=some (.dK kvs)/\Q (.int kvs.length) H):=by
 intro pins s σ H xs us Q I r h
 obtain⟨a,kvs,rfl,ha,q⟩:=h
 obtain⟨u,rfl,ru⟩:=Gi r
 cases ru
 exact aj2 I (.inl ha) fun t s' I'=>⟨.int kvs.length,H,I',⟨t,rfl⟩,q⟩
end
section
variable {κ:Type}[DecidableEq κ]
theorem Wt {kvs:List (κ×V)}{k:κ}(h:Cg kvs k=none):¬ k∈kvs.map (·.1):=by
 intro m
 obtain⟨p,hp,e⟩:=List.mem_map.mp m
 have q:(kvs.any fun kv=>decide (kv.1=k))=true:=List.any_eq_true.mpr ⟨p,hp,decide_eq_true e⟩
 rw [Fb,h] at q
 exact absurd q (by simp)
theorem To:∀ {l:List κ} {k:κ},l.Nodup->¬ k∈l->(l++[k]).Nodup
 | [],k,_,_=>by simp
 | a :: r,k,h,hk=>by
   obtain⟨h1,h2⟩:=List.nodup_cons.mp h
   show(a :: (r++[k])).Nodup
   refine List.nodup_cons.mpr ⟨fun m=>?_,To h2 fun m=>hk (List.mem_cons.mpr (Or.inr m))⟩
   rcases List.mem_append.mp m with q | q
   . exact h1 q
   exact hk (List.mem_cons.mpr (Or.inl (List.mem_singleton.mp q).symm))
theorem a37 {kvs:List (κ×V)}{k:κ}(v:V)(hn:(kvs.map (·.1)).Nodup)(h:Cg kvs k=none):((Dv kvs k v).map (·.1)).Nodup:=by
 rw[Gy v h,List.map_append]
 exact To hn (Wt h)
end
def I0 (env:Env)(names:List (Str×NameKind))(acc:List (Str×Addr)):List (Str×Addr):=
 names.foldl (fun acc y=>if y.2==NameKind.free then(y.1,(env.cells.lookup y.1).getD 0) :: acc else acc) acc
theorem Kl {env:Env}{scope:Scope}(h:∀ y∈scope.names,y.2=NameKind.free->∃ c,env.cells.lookup y.1=some c):closureFor scope env=pure (I0 env scope.names []):=by
 have all:∀(names:List (Str×NameKind)) (acc:List (Str×Addr)),(∀ y∈names,y.2=NameKind.free->∃ c,env.cells.lookup y.1=some c) ->
   (forIn names acc fun(y:Str×NameKind) (cs:List (Str×Addr))=>(match y with
    | (name,kind)=>if(kind==NameKind.free)=true then do let c <- cellOf env name;pure (ForInStep.yield ((name,c) :: cs)) else pure (ForInStep.yield cs):Sem (ForInStep (List (Str×Addr)))))=(pure (I0 env names acc):Sem (List (Str×Addr))):=by
  intro names
  induction names with
  | nil=>intro acc _;rfl
  | cons y r ih=>
    intro acc hy
    obtain⟨n,k⟩:=y
    rw[List.forIn_cons]
    by_cases hk:k=NameKind.free
    . subst hk
      obtain⟨c,hc⟩:=hy (n,.free) List.mem_cons_self rfl
      have e:cellOf env n=pure c:=by unfold cellOf;rw[show env.cells.lookup n=some c from hc]
      have e2:I0 env ((n,NameKind.free) :: r) acc=I0 env r ((n,c) :: acc):=by
       unfold I0
       rw[List.foldl_cons]
       simp only[beq_self_eq_true,if_true]
       rw[show env.cells.lookup n=some c from hc]
       rfl
      rw[e2,<- ih ((n,c) :: acc) fun z hz=>hy z (List.mem_cons_of_mem _ hz)]
      simp only[beq_self_eq_true,if_true,e]
      rfl
    have hb:(k==NameKind.free)=false:=by simpa using hk
    have e2:I0 env ((n,k) :: r) acc=I0 env r acc:=by
     unfold I0
     rw[List.foldl_cons]
     simp only[hb,Bool.false_eq_true,if_false]
    rw[e2,<- ih acc fun z hz=>hy z (List.mem_cons_of_mem _ hz)]
    simp only[hb,Bool.false_eq_true,if_false]
    rfl
 have q:=all scope.names [] h
 unfold closureFor
 first
  | exact q
  | (simp only[bind_pure];exact q)
  | (refine Eq.trans ?_ q;rfl)
theorem Qr {env:Env}{x:Str}{c:Addr}:∀ {names:List (Str×NameKind)} {acc:List (Str×Addr)},(∀ y∈names,y.2=NameKind.free->∃ c,env.cells.lookup y.1=some c)->(acc.lookup x=some c->env.cells.lookup x=some c) ->
  (I0 env names acc).lookup x=some c->env.cells.lookup x=some c
 | [],acc,_,ha,h=>ha h
 | (n,k) :: r,acc,hn,ha,h=>by
   have e:I0 env ((n,k) :: r) acc=I0 env r (if k==NameKind.free then(n,(env.cells.lookup n).getD 0) :: acc else acc):=rfl
   rw[e] at h
   refine Qr (fun y hy=>hn y (List.mem_cons_of_mem _ hy)) (fun q=>?_) h
   by_cases hk:k=NameKind.free
   . subst hk
     simp only[beq_self_eq_true,if_true,List.lookup_cons] at q
     obtain⟨d,hd⟩:=hn (n,.free) List.mem_cons_self rfl
     have hd':env.cells.lookup n=some d:=hd
     split at q
     . rename_i hx
       have hx':x=n:=beq_iff_eq.mp hx
       rw[hd'] at q
       rw[hx',hd']
       exact q
     exact ha q
   have hb:(k==NameKind.free)=false:=by simpa using hk
   simp only[hb,Bool.false_eq_true,if_false] at q
   exact ha q
theorem Lg {env:Env}{x:Str}:∀ {names:List (Str×NameKind)} {acc:List (Str×Addr)},((∃ c,acc.lookup x=some c)\/(x,NameKind.free)∈names)->∃ c,(I0 env names acc).lookup x=some c
 | [],acc,h=>by
   rcases h with h | h
   . exact h
   cases h
 | (n,k) :: r,acc,h=>by
   have e:I0 env ((n,k) :: r) acc=I0 env r (if k==NameKind.free then(n,(env.cells.lookup n).getD 0) :: acc else acc):=rfl
   rw[e]
   refine Lg ?_
   by_cases hk:k=NameKind.free
   . subst hk
     simp only[beq_self_eq_true,if_true,List.lookup_cons]
     by_cases hx:x=n
     . left
       have hb:(x==n)=true:=beq_iff_eq.mpr hx
       rw[hb]
       exact⟨_,rfl⟩
     have hb:(x==n)=false:=beq_eq_false_iff_ne.mpr hx
     rw[hb]
     rcases h with h | h
     . exact .inl h
     rcases List.mem_cons.mp h with q | q
     . cases q;exact absurd rfl hx
     exact .inr q
   have hb:(k==NameKind.free)=false:=by simpa using hk
   simp only[hb,Bool.false_eq_true,if_false]
   rcases h with h | h
   . exact .inl h
   rcases List.mem_cons.mp h with q | q
   . cases q;exact absurd rfl hk
   exact .inr q
theorem Cj:∀(names:List (Str×NameKind)) (n:Nat) (acc:List (Str×Addr)),cellsFrom n names acc=cellsFrom n names []++acc
 | [],_,_=>rfl
 | (x,k) :: r,n,acc=>by
   unfold cellsFrom
   split
   . rw[Cj r (n+1) ((x,n) :: acc),Cj r (n+1) [(x,n)],List.append_assoc]
     rfl
   exact Cj r n acc
theorem Hl {x:Str}{c:Addr}:∀ {names:List (Str×NameKind)} {n:Nat},(x,c)∈cellsFrom n names []->(x,NameKind.cell)∈names
 | [],_,h=>by cases h
 | (y,k) :: r,n,h=>by
   unfold cellsFrom at h
   split at h
   . rename_i hk
     rw[Cj] at h
     rcases List.mem_append.mp h with h | h
     . exact List.mem_cons_of_mem _ (Hl h)
     have e:=List.mem_singleton.mp h
     cases e
     rw[beq_iff_eq.mp hk]
     exact List.mem_cons_self
   exact List.mem_cons_of_mem _ (Hl h)
theorem Jn {α:Type}{x:Str}{c:α}:∀ {l:List (Str×α)},(x,c)∈l->∃ d,l.lookup x=some d
 | [],h=>by cases h
 | (y, d) :: r,h=>by
   rw[List.lookup_cons]
   cases e:x==y with
   | true=>exact⟨d,rfl⟩
   | false=>
     rcases List.mem_cons.mp h with q | q
     . cases q
       simp at e
     exact Jn q
theorem He {x:Str}:∀ {names:List (Str×NameKind)} {n:Nat},(x,NameKind.cell)∈names->∃ c,(x,c)∈cellsFrom n names []
 | [],_,h=>by cases h
 | (y,k) :: r,n,h=>by
   unfold cellsFrom
   split
   . rw[Cj]
     rcases List.mem_cons.mp h with q | q
     . cases q
       exact⟨n,List.mem_append_right _ (by simp)⟩
     obtain⟨c,hc⟩:=He (n:=n+1) q
     exact⟨c,List.mem_append_left _ hc⟩
   rename_i hk
   rcases List.mem_cons.mp h with q | q
   . cases q
     exact absurd rfl hk
   exact He q
def Qs (outer scope:Scope)(xs fr:List Str):Bool:=
 (scope.kind == .function)&&(outer.kind == .function)&&decide (scope.names.map (·.1)).Nodup
 && (scope.names.all fun y=>y.2 != .local||scope.names.lookup y.1==some .local)
 && (scope.names.all fun y=>y.2 != .free||(outer.names.lookup y.1==some .cell||outer.names.lookup y.1==some .free))
 && (scope.names.all fun y=>y.2 != .free||scope.names.lookup y.1==some .free)
 && (xs.all fun x=>scope.names.lookup x==some .local||scope.names.lookup x==some .cell)&&(fr.all fun x=>scope.names.lookup x==some .free)&&decide (xs++fr).Nodup
theorem C9 {α:Type}{x:Str}{v:α}:∀ {l:List (Str×α)},l.lookup x=some v->(x,v)∈l
 | [],h=>by cases h
 | (n,k) :: r,h=>by
   rw[List.lookup_cons] at h
   split at h
   . rename_i hx
     have hx':x=n:=beq_iff_eq.mp hx
     cases h
     rw[hx']
     exact List.mem_cons_self
   exact List.mem_cons_of_mem _ (C9 h)
theorem Gb {scope:Scope}{env:Env}{x:Str}{k:NameKind}(hk:env.scope.kind = .function):∀ {names:List (Str×NameKind)},names.lookup x=some k ->
  (names.map fun(n,k)=>if(k==NameKind.free&&env.scope.kind == .function&&env.kindOf n==some .cell) then(n,NameKind.cell) else(n,k)).lookup x=some (if(k==NameKind.free&&env.kindOf x==some .cell) then .cell else k)
 | [],h=>by cases h
 | (n,j) :: r,h=>by
   have ih:=@Gb scope env x k hk r
   rw[List.map_cons]
   rw[List.lookup_cons] at h
   dsimp only
   split at h
   . rename_i hx
     have hx':x=n:=beq_iff_eq.mp hx
     cases h
     subst hx'
     by_cases hc:(k==NameKind.free&&env.scope.kind == .function&&env.kindOf x==some .cell)=true
     . have hc2:(k==NameKind.free&&env.kindOf x==some .cell)=true:=by
        rw[Bool.and_eq_true,Bool.and_eq_true] at hc
        rw[Bool.and_eq_true]
        exact⟨hc.1.1,hc.2⟩
       rw[if_pos hc,if_pos hc2,List.lookup_cons,beq_self_eq_true]
     have hc2:¬ (k==NameKind.free&&env.kindOf x==some .cell)=true:=fun q=>hc (by
      rw[Bool.and_eq_true] at q
      rw[Bool.and_eq_true,Bool.and_eq_true,hk]
      exact⟨⟨q.1,rfl⟩,q.2⟩)
     rw[if_neg hc,if_neg hc2,List.lookup_cons,beq_self_eq_true]
   rename_i hx
   have hx':(x==n)=false:=by simpa using hx
   by_cases hc:(j==NameKind.free&&env.scope.kind == .function&&env.kindOf n==some .cell)=true
   . rw[if_pos hc,List.lookup_cons,hx']
     exact ih h
   rw[if_neg hc,List.lookup_cons,hx']
   exact ih h
theorem Ek {env:Env} {x:Str} {k:NameKind}:∀ {names:List (Str×NameKind)},
  (names.map fun(n,k)=>if(k==NameKind.free&&env.scope.kind == .function&&env.kindOf n==some .cell) then(n,NameKind.cell) else(n,k)).lookup x=some k ->
  ∃ j,names.lookup x=some j/\(k=j\/(j = .free/\k = .cell))
 | [],h=>by cases h
 | (n,j) :: r,h=>by
   have ih:=@Ek env x k r
   rw[List.map_cons] at h
   dsimp only at h
   by_cases hc:(j==NameKind.free&&env.scope.kind == .function&&env.kindOf n==some .cell)=true
   . rw[if_pos hc,List.lookup_cons] at h
     have hj:j = .free:=by
      rw[Bool.and_eq_true,Bool.and_eq_true] at hc
      exact beq_iff_eq.mp hc.1.1
     rw[List.lookup_cons]
     split at h
     . rename_i hx
       cases h
       exact⟨j,rfl,.inr ⟨hj,rfl⟩⟩
     rename_i hx
     have hx':(x==n)=false:=by simpa using hx
     exact ih h
   rw[if_neg hc,List.lookup_cons] at h
   rw[List.lookup_cons]
   split at h
   . rename_i hx
     cases h
     exact⟨_,rfl,.inl rfl⟩
   rename_i hx
   have hx':(x==n)=false:=by simpa using hx
   exact ih h
structure CompS (X:Cx)(scope:Scope)(xs fr:List Str):Prop where
 kind:scope.kind = .function
 okind:X.env.scope.kind = .function
 uniq:(scope.names.map (·.1)).Nodup
 names:∀ y∈scope.names,y.2 = .local->scope.names.lookup y.1=some .local
 free:∀ y∈scope.names,y.2 = .free->X.env.kindOf y.1=some .cell\/X.env.kindOf y.1=some .free
 own:∀ x∈xs,scope.names.lookup x=some .local\/scope.names.lookup x=some .cell
 fre:∀ x∈fr,scope.names.lookup x=some .free
 nd:(xs++fr).Nodup
theorem R0 {X:Cx}{scope:Scope}{xs fr:List Str}(h:Qs X.env.scope scope xs fr=true):CompS X scope xs fr:=by
 unfold Qs at h
 simp only[Bool.and_eq_true,List.all_eq_true,bne_iff_ne,Bool.or_eq_true,beq_iff_eq,decide_eq_true_eq] at h
 obtain⟨⟨⟨⟨⟨⟨⟨⟨h1,h2⟩,h3⟩,h4⟩,h5⟩,h6⟩,h7⟩,h8⟩,h9⟩:=h
 exact⟨h1,h2,h3,fun y hy e=>(h4 y hy).resolve_left (fun q=>q e),fun y hy e=>(h5 y hy).resolve_left (fun q=>q e),h7,h8,h9⟩
def L6 (σ:St)(js:List Nat):St:=js.map fun j=>(σ[j]?).getD none
abbrev cxC (X:Cx)(scope:Scope)(xs fr:List Str)(C:Addr)(ex:List Addr)(s₀:Shared)(H₀:Hp):Cx:=
 { X with N:=xs++fr,env:=compEnvC scope (cellsFrom (C+1) scope.names (I0 X.env scope.names [])) C X.env,s₀:=s₀,H₀:=H₀,outer:=X.stack,ex:=ex,fn:=fun x=>scope.names.lookup x==some .cell,pn:=[],xe:=fun _ _=>False }
section
variable {X:Cx}{scope:Scope}{xs fr:List Str}{pins:List (Addr×Obj)}{σ:St}{H:Hp}{s:Shared}{js:List Nat}{fp:List Addr}
theorem Nq {α:Type}{x:Str}{v:α}:∀ {l:List (Str×α)},(l.map (·.1)).Nodup->(x,v)∈l->l.lookup x=some v
 | [],_,h=>by cases h
 | (y,d) :: r,hn,h=>by
   obtain⟨h1,h2⟩:=List.nodup_cons.mp hn
   rw[List.lookup_cons]
   rcases List.mem_cons.mp h with q | q
   . cases q
     rw[beq_self_eq_true]
   have hne:(x==y)=false:=beq_eq_false_iff_ne.mpr fun e=>h1 (e ▸ List.mem_map.mpr ⟨(x,v),q,rfl⟩)
   rw[hne]
   exact Nq h2 q
theorem CompS.cells (S:CompS X scope xs fr)(ok:X.Ok):∀ y∈scope.names,y.2=NameKind.free->∃ c,X.env.cells.lookup y.1=some c:=fun y hy e=>ok.has _ (S.free y hy e)
theorem Wu (S:CompS X scope xs fr)(hjs:js.map (fun j=>X.N[j]?)=fr.map some)(I:Inv X pins σ H s)(hfp:∀ b∈fp,Pu X pins H b)(hob:∀ b∈fp,∃ o,s.heap.get? b=some o){h':Heap}{t':Nat}
  (hn:h'.Ns s.heap.objs.size fun _=>none) (keep:∀ b o,s.heap.get? b=some o->h'.get? b=some o) (hcs:CellsOk h' (s.heap.objs.size+1) (cellsFrom (s.heap.objs.size+1) scope.names [])) :
  Inv (cxC X scope xs fr s.heap.objs.size fp s H) [] (List.replicate xs.length none++L6 σ js) H { s with heap:=h',toks:=t' }:=by
 have hcl:=S.cells I.ok
 have sub:∀ x c,(I0 X.env scope.names []).lookup x=some c->X.env.cells.lookup x=some c:=fun x c h=>Qr hcl (fun q=>by cases q) h
 have hl:js.length=fr.length:=by have:=congrArg List.length hjs;rwa[List.length_map,List.length_map] at this
 have two:∀ x c,(cellsFrom (s.heap.objs.size+1) scope.names (I0 X.env scope.names [])).lookup x=some c->(x,c)∈cellsFrom (s.heap.objs.size+1) scope.names []\/(I0 X.env scope.names []).lookup x=some c:=fun x c h=>by
  rw[Cj,List.lookup_append] at h
  cases e:(cellsFrom (s.heap.objs.size+1) scope.names []).lookup x with
  | some d=>
    rw[e] at h
    cases h
    exact .inl (C9 e)
  | none=>
    rw[e] at h
    exact .inr h
 have oldc:∀ x c,X.env.cells.lookup x=some c->c<s.heap.objs.size:=fun x c h=>let ⟨_,_,ho,_⟩:=I.cell x c h;Heap.lt_size ho
 have newc:∀ x c,(x,c)∈cellsFrom (s.heap.objs.size+1) scope.names []->s.heap.objs.size<c:=fun x c h=>(hcs.empty x c h).2
 refine⟨⟨I.ok.mod,S.kind,I.ok.glob,I.ok.blt,Nat.le_refl _,fun x y c h1 h2=>?_,fun x hx=>?_,fun x c hf h=>?_,I.ok.hd,I.ok.frames,.inl rfl,fun b hb=>?_,fun b o e=>I.bs b o e,Nat.le_trans I.ok.bsz I.sz,fun b o e hb=>?_,fun b hb hb2=>?_,I.stack,I.stkFree⟩,
  rfl,I.bare,Un.kept keep,⟨_,hn,fun i x v e1 e2 e3=>?_⟩,fun x c h=>?_,I.hok.fresh (Nat.le_refl _),fun x c h=>?_,fun p hp=>absurd (show p∈([]:List (Addr×Obj)) from hp) (by simp),I.hok.kept keep,?_⟩
 . rcases two x c h1 with g1 | g1
   . rcases two y c h2 with g2 | g2
     . exact name_of_addr hcs.apart g1 g2
     exact absurd (oldc y c (sub y c g2)) (Nat.not_lt.mpr (Nat.le_of_lt (newc x c g1)))
   rcases two y c h2 with g2 | g2
   . exact absurd (oldc x c (sub x c g1)) (Nat.not_lt.mpr (Nat.le_of_lt (newc y c g2)))
   exact I.ok.inj x y c (sub x c g1) (sub y c g2)
 . -- the names that are cells there have one
   have hx:(relabel scope X.env).names.lookup x=some .cell\/(relabel scope X.env).names.lookup x=some .free:=hx
   have app:∀ c,(I0 X.env scope.names []).lookup x=some c\/(x,c)∈cellsFrom (s.heap.objs.size+1) scope.names []->∃ c,(cellsFrom (s.heap.objs.size+1) scope.names (I0 X.env scope.names [])).lookup x=some c:=fun c h=>by
    rw[Cj,List.lookup_append]
    rcases h with h | h
    . cases (cellsFrom (s.heap.objs.size+1) scope.names []).lookup x with
      | some d=>exact⟨d,rfl⟩
      | none=>exact⟨c,h⟩
    obtain⟨d,hd⟩:=Jn h
    rw[hd]
    exact⟨d,rfl⟩
   have go:∀ k,(relabel scope X.env).names.lookup x=some k->(k = .cell\/k = .free)->∃ c,(cellsFrom (s.heap.objs.size+1) scope.names (I0 X.env scope.names [])).lookup x=some c:=fun k e hk=>by
    obtain⟨j,hj,q⟩:=Ek (env:=X.env) (names:=scope.names) e
    have hm:=C9 hj
    have hjf:j = .free\/j = .cell:=by
     rcases q with q | q
     . rcases hk with hk | hk
       . exact .inr (q ▸ hk)
       exact .inl (q ▸ hk)
     exact .inl q.1
    rcases hjf with hjf | hjf
    . subst hjf
      obtain⟨c,hc⟩:=Lg (env:=X.env) (x:=x) (names:=scope.names) (acc:=[]) (.inr hm)
      exact app c (.inl hc)
    subst hjf
    obtain⟨c,hc⟩:=He (n:=s.heap.objs.size+1) hm
    exact app c (.inr hc)
   rcases hx with hx | hx
   . exact go _ hx (.inl rfl)
   exact go _ hx (.inr rfl)
 . rcases two x c h with g | g
   . exact Nat.le_of_lt (newc x c g)
   have hf':scope.names.lookup x=some .cell:=by simpa using hf
   obtain⟨d,hd⟩:=He (n:=s.heap.objs.size+1) (C9 hf')
   have h':=h
   obtain⟨e,he⟩:=Jn hd
   have h':(cellsFrom (s.heap.objs.size+1) scope.names (I0 X.env scope.names [])).lookup x=some c:=h
   rw[Cj,List.lookup_append,he] at h'
   cases h'
   exact Nat.le_of_lt (newc x _ (C9 he))
 . obtain⟨f0,f1,f2,f3,f4,f5⟩:=hfp b hb
   obtain⟨o,ho⟩:=hob b hb
   refine⟨Nat.ne_of_lt (Heap.lt_size ho),fun x c h z=>?_⟩
   rcases two x c h with g | g
   . have h1:=newc x c g
     have h2:=Heap.lt_size ho
     rw[<- z] at h2
     exact absurd h1 (Nat.not_lt.mpr (Nat.le_of_lt h2))
   exact f4 x c (sub x c g) z
 . obtain⟨f0,f1,f2,f3,f4,f5⟩:=hfp b hb
   rcases f3 with f3 | f3
   . exact I.ok.noex b o e f3
   exact absurd (Nat.lt_of_lt_of_le (Heap.lt_size (I.ok.bs b o e).1) f3) (Nat.lt_irrefl _)
 . obtain⟨f0,f1,f2,f3,f4,f5⟩:=hfp b hb
   rcases List.mem_cons.mp (I.stkSub b hb2) with z | z
   . exact f1 z
   exact f2 z
 . have e1:(xs++fr)[i]? = some x:=e1
   by_cases hi:i<xs.length
   . rw[List.getElem?_append_left (by rw[List.length_replicate];exact hi),List.getElem?_replicate,if_pos hi] at e2
     cases e2
   have hi':xs.length<=i:=Nat.le_of_not_lt hi
   rw[List.getElem?_append_right hi'] at e1
   rw[List.getElem?_append_right (by rw[List.length_replicate];exact hi'),List.length_replicate] at e2
   unfold L6 at e2
   rw[List.getElem?_map] at e2
   cases ej:js[i-xs.length]? with
   | none=>rw[ej] at e2;cases e2
   | some j=>
     rw[ej] at e2
     have e2':(σ[j]?).getD none=some v:=Option.some.inj e2
     have e4:σ[j]? = some (some v):=by
      cases q:σ[j]? with
      | none=>rw[q] at e2';cases e2'
      | some o=>rw[q] at e2';rw[show o=some v from e2']
     have e5:X.N[j]? = some x:=by
      have:=congrArg (fun l=>l[i-xs.length]?) hjs
      rw[List.getElem?_map,List.getElem?_map,ej,e1] at this
      exact Option.some.inj this
     have hf:=S.fre x (List.mem_of_getElem? e1)
     have hk:=S.free _ (C9 hf) rfl
     obtain⟨m,hm,hl'⟩:=I.loc
     obtain⟨u,r,lk⟩:=hl' j x v e5 e4 (.inr hk)
     refine⟨u,r,.inr ⟨?_,?_⟩⟩
     . have q:=Gb (scope:=scope) (env:=X.env) S.okind hf
       show(relabel scope X.env).names.lookup x=some .cell\/(relabel scope X.env).names.lookup x=some .free
       have q':(relabel scope X.env).names.lookup x=some (if(NameKind.free==NameKind.free&&X.env.kindOf x==some .cell) then .cell else .free):=q
       by_cases hc:(NameKind.free==NameKind.free&&X.env.kindOf x==some .cell)=true
       . rw[if_pos hc] at q';exact .inl q'
       rw[if_neg hc] at q';exact .inr q'
     obtain⟨c',hc'⟩:=Lg (env:=X.env) (x:=x) (names:=scope.names) (acc:=[]) (.inr (C9 hf))
     rcases lk with ⟨z,_⟩ | ⟨_,c,hc,ob,ho,hd⟩
     . rcases hk with hk | hk
       . rw[z] at hk;cases hk
       rw[z] at hk;cases hk
     have e6:c=c':=by
      have:=sub x c' hc'
      rw[hc] at this
      exact Option.some.inj this
     subst e6
     refine⟨_,?_,ob,keep _ _ ho,hd⟩
     show(cellsFrom (s.heap.objs.size+1) scope.names (I0 X.env scope.names [])).lookup x=some c
     rw [Cj,List.lookup_append]
     have none':(cellsFrom (s.heap.objs.size+1) scope.names []).lookup x=none:=by
      cases e:(cellsFrom (s.heap.objs.size+1) scope.names []).lookup x with
      | none=>rfl
      | some d=>
        have:=Nq S.uniq (Hl (C9 e))
        rw[hf] at this
        cases this
     rw[none']
     exact hc'
 . rcases two x c h with g | g
   . exact⟨_,(hcs.empty x c g).1⟩
   obtain⟨v,ob,ho,hd⟩:=I.cell x c (sub x c g)
   exact⟨v,ob,keep _ _ ho,hd⟩
 . rcases two x c h with g | g
   . exact I.hok.fresh (Nat.le_of_lt (newc x c g))
   exact I.freeC x c (sub x c g)
 show _=(xs++fr).length
 unfold L6
 rw[List.length_append,List.length_append,List.length_replicate,List.length_map,hl]
theorem Vg {M:Model}{A:Around}{E:Value->Shared->Prop}{s:Shared}{scope:Scope}{globals:Addr}{cl:List (Str×Addr)}{qual:Str}{env:Env}{Q:Env->Shared->Prop}
  (hQ:∀ h',h'.Ns s.heap.objs.size (fun _=>none)->(∀ b o,s.heap.get? b=some o->h'.get? b=some o)->CellsOk h' (s.heap.objs.size+1) (cellsFrom (s.heap.objs.size+1) scope.names []) ->
   Q (newEnv scope s.heap.objs.size globals (cellsFrom (s.heap.objs.size+1) scope.names cl) qual none .none (some env) builtinsNs) { s with heap:=h' }) :
  wpAny M A (newFunctionEnv scope globals cl [] qual none .none (some env)) Q E s:=by
 simp only[newFunctionEnv,Option.isSome_some,if_true]
 refine wpAny_bind (wpAny_alloc ?_)
 refine wpAny_bind (wpAny_layCells _ (fun name kind cells=>by cases hkc:kind==NameKind.cell<;>simp[hkc]) _ _ _ _ ?_)
 have okc:=cellsFrom_ok scope.names (s.heap.push { cls:=.type "dict",data:=.dict #[] }) (s.heap.objs.size+1) [] ⟨fun _ _ hm=>(nomatch hm),List.Pairwise.nil⟩ (by rw[Heap.size_push];exact Nat.le_refl _)
 rw[Heap.size_push] at okc
 rw[show({ s with heap:=s.heap.push { cls:=.type "dict",data:=.dict #[] } }:Shared).heap.objs.size=s.heap.objs.size+1 from Heap.size_push ..]
 rw[List.forIn_nil]
 exact wpAny_bind (wpAny_pure (wpAny_pure (hQ _ ((Heap.Ns.new s.heap (.type "dict")).keeps (pushCells_keeps _ _)) (fun b o e=>pushCells_keeps _ _ b o (Heap.get?_push_of_some _ e)) okc)))
theorem Vr {σ':St}{H':Hp}{s':Shared}{h'':Heap}(I:Inv X pins σ H s)(hfp:∀ b∈fp,Pu X pins H b)(J:Inv (cxC X scope xs fr s.heap.objs.size fp s H) [] σ' H' s')(hs:Heap.SameBut s.heap.objs.size s'.heap h'') :
  Inv X pins σ H' { s' with heap:=h'' }:=by
 have old:∀ b o,s.heap.get? b=some o->b≠s.heap.objs.size:=fun b o e=>Nat.ne_of_lt (Heap.lt_size e)
 have ub:Un (frs X.stack) fp H H' s.heap s'.heap:=J.base
 refine I.call' (s':={ s' with heap:=h'' }) (ch:=fp) J.os ⟨fun b o e n hb hx=>(hs.2 b (old b o e)).trans (ub.keep b o e n hb hx),fun b o e n hb hx=>?_,ub.free,fun b o e hx=>?_,ub.tups,ub.frzs,ub.tbls⟩ (fun b o e=>?_) J.bare fun b hb=>?_
 . obtain⟨sl,e1⟩:=ub.slot b o e n hb hx
   exact⟨sl,(hs.2 b (old b o e)).trans e1⟩
 . obtain⟨o',e1⟩:=ub.there b o e hx
   exact⟨o',(hs.2 b (old b o e)).trans e1⟩
 . have hf:H' s.heap.objs.size=none:=J.free
   refine(J.hok b o e).stay (fun c v hc q=>(hs.2 c ?_).trans q) (fun _ q=>q) fun _ _ q=>q
   intro z
   rcases hc with hc | hc
   . rw[<- hc,z,hf] at e;cases e
   rw[z,hf] at hc;cases hc
 obtain⟨f0,f1,f2,f3,f4,f5⟩:=hfp b hb
 exact⟨f3,f1,f4,f5⟩
def PIf (X:Cx)(ifs:List Expr)(t:TT):Prop:=
 ∀(pins:List (Addr×Obj)) (s:Shared) (σ:St) (H:Hp) (Q:Bool->Hp->Prop) (E:Value->Shared->Prop),(∀ e s',X.xe e s'->E e s')->Inv X pins σ H s->t σ H Q ->
  wpAny (model X.prog X.w) X.A (forIn ifs true fun c r=>if r=true then do let ok <- isTrue c X.env (eval c X.env);pure (ForInStep.yield ok) else pure (ForInStep.yield r)) (TP X pins σ Q) E s
def a32:TT:=fun _ H Q=>Q true H
theorem Dl:PIf X [] a32:=fun _ _ _ H _ _ _ I h=>wpAny_tests_nil ⟨H,I,h⟩
theorem Di {c:Expr}{t:TT}(hc:PT X c t):PIf X [c] t:=fun pins s σ H Q _ hE I h=>wpAny_tests_one (wpAny_mono (hc pins s σ H Q I h) (fun _ _ z=>z) hE)
def Zc (k:Nat)(js:List Nat)(wi:TI)(g:TG)(tt:TT)(te:TE):TE:=fun σ H Q=>wi σ H fun J H1=>∀ p,H1 p=none ->
 ∃ W:Nat->Nat->Hp->Prop,(∃ m,W 0 m (upd H1 p (.lst [])))/\∀ i m H,W i m H ->
  (J.stop i H/\Q (.ref p) H)\/(J.go i H/\∃ N:Hp->Prop,(∀ H',N H'->∃ m',m'<m/\W (i+1) m' H') /\
   ∀ x H',J.yld i H x H'->g x (List.replicate k none++L6 σ js) H' fun σ2 H2=>tt σ2 H2 fun b H3=>
    if b=true then te σ2 H3 fun y H4=>∃ acc,H4 p=some (.lst acc)/\acc.length<sizeLine/\N (upd H4 p (.lst (acc++[y]))) else N H3)
theorem Te {tg elt iter:Expr}{ifs:List Expr}{pos:Pos}{it acc:Value}{env:Env}{A:Around}{R:Result->Shared->Prop}{s:Shared}{P:Program}{w:World}(I:Nat->Shared->Prop)
  (turn:∀ n s,I n s->wpAny (model P w) A (pyNext it) (fun r s₁=>match r with
   | none=>R (.ok .next) s₁
   | some v=>wpAny (model P w) A (letOwnedTupleGo tg it v) (fun _ s₁'=>wpAny (model P w) A (assign tg env v) (fun _ s₂=>
     wpAny (model P w) A (forIn ifs true fun c r=>if r=true then do let ok <- isTrue c env (eval c env);pure (ForInStep.yield ok) else pure (ForInStep.yield r)) (fun ok s₃=>
      if ok=true then wpAny (model P w) A (eval elt env) (fun x s₄=>
       wpAny (model P w) A (call (.builtin "list.append") [acc,x]) (fun _ s₅=>∃ m,m<n/\I m s₅) (fun _ _=>False) s₄) (fun _ _=>False) s₃
      else ∃ m,m<n/\I m s₃) (fun _ _=>False) s₂) (fun _ _=>False) s₁') (fun _ _=>False) s₁) (fun _ _=>False) s)
  (n:Nat) (h:I n s):codeAny (model P w) A (.compLoop (.ListComp elt [⟨tg,iter,ifs,0⟩] scope pos) 0 it acc env) R s:=by
 refine codeAny_loop rfl I (fun n s hI=>?_) n h
 show wpAny _ A ((compTurn (.ListComp elt [⟨tg,iter,ifs,0⟩] scope pos) 0 it acc env).onRaise (fun x=>do noteFrame x env;theTreesLotGoes x)) _ _ s
 refine wpAny_noted ?_
 rw [compTurn_list]
 refine wpAny_bind (wpAny_standAt (wpAny_bind (wpAny_mono (turn n s hI) (fun r s₁ h₁=>?_) fun _ _ h'=>h'.elim)))
 cases r with
 | none=>exact wpAny_pure h₁
 | some v=>
   refine wpAny_bind (wpAny_mono h₁ (fun _ s₁' h₁'=>?_) fun _ _ h'=>h'.elim)
   refine wpAny_bind (wpAny_mono h₁' (fun _ s₂ h₂=>wpAny_bind (wpAny_mono h₂ (fun ok s₃ h₃=>?_) fun _ _ h'=>h'.elim)) fun _ _ h'=>h'.elim)
   cases ok with
   | false=>exact wpAny_pure ⟨rfl,h₃⟩
   | true=>
     exact wpAny_bind (wpAny_bind (wpAny_mono h₃ (fun x s₄ h₄=>wpAny_bind (wpAny_mono h₄ (fun _ s₅ h₅=>wpAny_pure (wpAny_pure ⟨rfl,h₅⟩)) fun _ _ h'=>h'.elim)) fun _ _ h'=>h'.elim))
def Va (n:Nat)(g:TG):Prop:=∀ x σ H Q,g x σ H Q->g x σ H fun σ' H'=>(∀ k,n<=k->σ'[k]? = σ[k]?)/\Q σ' H'
def Qx (n:Nat)(g:TGs):Prop:=∀ vs σ H Q,g vs σ H Q->g vs σ H fun σ' H'=>(∀ k,n<=k->σ'[k]? = σ[k]?)/\Q σ' H'
theorem B7 {n i:Nat}(h:i<n):Va n (Ir i):=fun x σ H Q q=>⟨fun k hk=>List.getElem?_set_ne (by omega),q⟩
theorem Yx {n:Nat}:Qx n ai0:=fun vs σ H Q ⟨e,q⟩=>⟨e,fun _ _=>rfl,q⟩
theorem Ly {n i:Nat}{u:TGs}(h:i<n)(hu:Qx n u):Qx n (Rm (Ir i) u):=fun vs σ H Q ⟨v,r,e,q⟩=>by
 refine⟨v,r,e,?_⟩
 have q':u r (σ.set i (some v)) H Q:=q
 show u r (σ.set i (some v)) H _
 have z:=hu _ _ _ _ q'
 have e2:(fun(σ':St) (H':Hp)=>(∀ k,n<=k->σ'[k]? = (σ.set i (some v))[k]?)/\Q σ' H')=fun σ' H'=>(∀ k,n<=k->σ'[k]? = σ[k]?)/\Q σ' H':=by
  funext σ' H'
  have e3:(∀ k,n<=k->σ'[k]? = (σ.set i (some v))[k]?) = ∀ k,n<=k->σ'[k]? = σ[k]?:=by
   refine propext ⟨fun f k hk=>?_,fun f k hk=>?_⟩
   . rw[f k hk,List.getElem?_set_ne (by omega)]
   rw[f k hk,List.getElem?_set_ne (by omega)]
  rw[e3]
 rw[e2] at z
 exact z
theorem Xx {K:PySem.W.Frag}{n m:Nat}{u:TGs}(hu:Qx n u):Va n (ab6 K m u):=fun x σ H Q ⟨a,xs,e,hq,hl,q⟩=>⟨a,xs,e,hq,hl,hu _ _ _ _ q⟩
theorem Qw {tg elt iter:Expr}{ifs:List Expr}{pos:Pos}{g:TG}{tt:TT}{te:TE}(hc:X.calm=true)(S:CompS X scope xs fr)(hjs:js.map (fun j=>X.N[j]?)=fr.map some)
  (hg:∀ C ex s₀ H₀,PG (cxC X scope xs fr C ex s₀ H₀) tg g) (hk:Va xs.length g) (hi:∀ C ex s₀ H₀,PIf (cxC X scope xs fr C ex s₀ H₀) ifs tt) (he:∀ C ex s₀ H₀,PE (cxC X scope xs fr C ex s₀ H₀) elt te)
  {s2:Shared} {H1:Hp} {R:Value->Addr->Result->Shared->Prop} {Q:VK} {it:Addr} {tn:Nat->Heap->Prop} {J:It} (I:Inv X pins σ H1 s2) (T:Wo X.prog X.w X.K tg J fp it tn) (st:tn 0 s2.heap) (hfp:∀ b∈fp,Pu X pins H1 b)
  (hq:∀ p,H1 p=none->∃ W:Nat->Nat->Hp->Prop,(∃ m,W 0 m (upd H1 p (.lst [])))/\∀ i m H,W i m H ->
   (J.stop i H/\Q (.ref p) H)\/(J.go i H/\∃ N:Hp->Prop,(∀ H',N H'->∃ m',m'<m/\W (i+1) m' H') /\
    ∀ x H',J.yld i H x H'->g x (List.replicate xs.length none++L6 σ js) H' fun σ2 H2=>tt σ2 H2 fun b H3=>
     if b=true then te σ2 H3 fun y H4=>∃ acc,H4 p=some (.lst acc)/\acc.length<sizeLine/\N (upd H4 p (.lst (acc++[y]))) else N H3))
  (hR:∀(p C:Addr) (s':Shared) (H':Hp),(∃ m,s'.heap.Ns C m)->Pu X pins H' C->Inv X pins σ H' s'->Q (.ref p) H'->R (.ref p) C (.ok .next) s') :
  wpAny (model X.prog X.w) X.A (newList []) (fun acc s₃=>wpAny (model X.prog X.w) X.A (newFunctionEnv scope X.env.globals (I0 X.env scope.names []) [] X.env.qual none .none (some X.env)) (fun cenv s₄=>
   codeAny (model X.prog X.w) X.A (.compStart (.ListComp elt [⟨tg,iter,ifs,0⟩] scope pos) 0 (.ref it) acc { cenv with scope:=relabel scope X.env }) (R acc cenv.locals) s₄) X.xe s₃) X.xe s2:=by
 refine wpAny_newObj_type ?_ (by show 0<=sizeLine;exact Nat.zero_le _)
 have hn0:H1 s2.heap.objs.size=none:=I.hok.fresh (Nat.le_refl _)
 have I3:Inv X pins σ (upd H1 s2.heap.objs.size (.lst [])) { s2 with heap:=s2.heap.push { cls:=.type "list",data:=.seq ([]:List Value).toArray } }:=I.laid (t':=s2.toks) (fun b u e=>Heap.get?_push_of_some _ e) (Nat.le_refl _) ⟨Nat.zero_le _,[],0,.nil,Heap.get?_push_size _ rfl⟩
 obtain⟨W,⟨m0,w0⟩,turn⟩:=hq _ hn0
 have hob:∀ b∈fp,∃ o,s2.heap.get? b=some o:=fun b hb=>let ⟨o,e,_⟩:=T.obj _ _ st b hb;⟨o,e⟩
 have hfp3:∀ b∈fp,Pu X pins (upd H1 s2.heap.objs.size (.lst [])) b:=fun b hb=>by
  obtain⟨f0,f⟩:=hfp b hb
  obtain⟨o,e⟩:=hob b hb
  exact⟨by rw[Aq (Nat.ne_of_lt (Heap.lt_size e))];exact f0,f⟩
 have hob3:∀ b∈fp,∃ o,(s2.heap.push { cls:=.type "list",data:=.seq ([]:List Value).toArray }).get? b=some o:=fun b hb=>let ⟨o,e⟩:=hob b hb;⟨o,Heap.get?_push_of_some _ e⟩
 have st3:tn 0 (s2.heap.push { cls:=.type "list",data:=.seq ([]:List Value).toArray }):=T.keep _ _ _ st fun b _ o e=>Heap.get?_push_of_some _ e
 generalize hs3:({ s2 with heap:=s2.heap.push { cls:=.type "list",data:=.seq ([]:List Value).toArray } }:Shared)=s3 at I3 ⊢
 have st3':tn 0 s3.heap:=by rw[<- hs3];exact st3
 have hob3':∀ b∈fp,∃ o,s3.heap.get? b=some o:=by rw[<- hs3];exact hob3
 generalize hH3:upd H1 s2.heap.objs.size (.lst [])=H3 at I3 hfp3 w0
 generalize hp0:s2.heap.objs.size=p0 at turn ⊢
 refine Vg fun h₁ hns₁ hkp₁ hco₁=>?_
 have I4:=Wu (t':=s3.toks) S hjs I3 hfp3 hob3' hns₁ hkp₁ hco₁
 have st4:tn 0 h₁:=T.keep _ _ _ st3' fun b hb o e=>hkp₁ b o e
 have loop:∀ s₄:Shared,Inv (cxC X scope xs fr s3.heap.objs.size fp s3 H3) [] (List.replicate xs.length none++L6 σ js) H3 s₄->tn 0 s₄.heap ->
   codeAny (model X.prog X.w) X.A (.compLoop (.ListComp elt [⟨tg,iter,ifs,0⟩] scope pos) 0 (.ref it) (.ref p0) (compEnvC scope (cellsFrom (s3.heap.objs.size+1) scope.names (I0 X.env scope.names [])) s3.heap.objs.size X.env)) (R (.ref p0) s3.heap.objs.size) s₄:=by
  intro s₄ I4 st4
  have stat:∀ {H':Hp},(∀ b∈fp,H' b=none)->∀ b∈fp,Pu (cxC X scope xs fr s3.heap.objs.size fp s3 H3) [] H' b:=fun {H'} hn b hb=>by
   obtain⟨f0,f1,f2,f3,f4,f5⟩:=hfp3 b hb
   obtain⟨o,e⟩:=hob3' b hb
   refine⟨hn b hb,Nat.ne_of_lt (Heap.lt_size e),I4.ok.exfs b hb,.inl hb,fun x c h=>(I4.ok.exf b hb).2 x c h,fun p hp=>absurd (show p∈([]:List (Addr×Obj)) from hp) (by simp)⟩
  refine Te (fun n s'=>∃ i H',Inv (cxC X scope xs fr s3.heap.objs.size fp s3 H3) [] (List.replicate xs.length none++L6 σ js) H' s'/\tn i s'.heap/\(∀ b∈fp,H' b=none)/\W i n H') ?_ m0 ⟨0,H3,I4,st4,fun b hb=>(hfp3 b hb).1,w0⟩
  rintro n s5 ⟨i,H5,I5,st5,fr5,w5⟩
  rcases turn i n H5 w5 with ⟨stop,qn⟩ | ⟨go,N,hN,step⟩
  . refine thn (T.done (cxC X scope xs fr s3.heap.objs.size fp s3 H3) rfl rfl rfl hc i [] s5 _ H5 (fun _ _=>False) I5 (stat fr5) st5 stop) fun r s6 ⟨hr,I6⟩=>?_
    subst hr
    obtain⟨m6,n6,_⟩:=id I6.loc
    exact hR p0 s3.heap.objs.size s6 H5 ⟨m6,n6⟩ (I3.fpOk (Nat.le_refl _) I6.free) (Vr I3 hfp3 I6 (Heap.SameBut.refl ..)) qn
  refine thn (T.item (cxC X scope xs fr s3.heap.objs.size fp s3 H3) rfl rfl rfl hc i [] s5 _ H5 (fun _ _=>False) I5 (stat fr5) st5 go) fun r s6 ⟨u,hr,h6⟩=>?_
  subst hr
  refine thn h6 fun _ s7 ⟨x,H7,I7,r7,y7,st7,fr7⟩=>?_
  have I7':=I7.pinned (stat fr7) (T.obj _ _ st7)
  refine thn (hg _ _ _ _ _ s7 _ H7 x u _ I7' r7 (hk _ _ _ _ (step x H7 y7))) fun _ s8 ⟨σ8,H8,I8,kp8,q8⟩=>?_
  have again:∀ {s9:Shared} {H9:Hp},Inv (cxC X scope xs fr s3.heap.objs.size fp s3 H3) ([]++Nc fp s7.heap) σ8 H9 s9->N H9 ->
    ∃ m,m<n/\∃ i H',Inv (cxC X scope xs fr s3.heap.objs.size fp s3 H3) [] (List.replicate xs.length none++L6 σ js) H' s9/\tn i s9.heap/\(∀ b∈fp,H' b=none)/\W i m H':=fun {s9 H9} I9 n9=>by
   obtain⟨m',hm,w9⟩:=hN H9 n9
   refine⟨m',hm,i+1,H9,I9.unpinned.weak ?_ ?_,T.keep _ _ _ st7 fun b hb o e=>(I9.pin (b,o) (List.mem_append_right _ (List.mem_append_right _ (G1 hb e)))).1,fun b hb=>?_,w9⟩
   . rw[I9.len,I5.len]
   . intro k v hkv
     by_cases hx:k<xs.length
     . rw[List.getElem?_append_left (by rw[List.length_replicate];exact hx),List.getElem?_replicate,if_pos hx] at hkv
       cases hkv
     rw[kp8 k (Nat.le_of_not_lt hx)]
     exact hkv
   obtain ⟨o,e,d⟩:=T.obj _ _ st7 b hb
   exact(I9.pin (b,o) (List.mem_append_right _ (List.mem_append_right _ (G1 hb e)))).2.1
  refine wpAny_mono (hi _ _ _ _ _ s8 σ8 H8 _ (fun _ _=>False) (fun _ _ z=>z) I8 q8) (fun ok s9 ⟨H9,I9,q9⟩=>?_) fun _ _ z=>z
  cases ok with
  | false=>
    rw[if_neg Bool.false_ne_true]
    rw[if_neg Bool.false_ne_true] at q9
    exact again I9 q9
  | true=>
    rw[if_pos rfl]
    rw[if_pos rfl] at q9
    refine thn (he _ _ _ _ _ s9 σ8 H9 _ I9 q9) fun uy s10 ⟨y,H10,I10,r10,acc,hacc,hz,n10⟩=>?_
    refine thn (Fi _ s10 σ8 H10 (.ref p0) [y] (.ref p0) [uy] (fun _ H11=>N H11) I10 rfl (.cons r10 .nil) ⟨p0,acc,y,rfl,rfl,hacc,hz,n10⟩) fun _ s11 ⟨_,H11,I11,_,n11⟩=>?_
    exact again I11 n11
 exact codeAny_compStart_list (loop _ I4 st4) (T.self _ _ _ _ _ st4 (loop _ I4 st4))
theorem Inv.letgo {C:Addr}{h'':Heap}(I:Inv X pins σ H s)(f:Pu X pins H C)(hs:Heap.SameBut C s.heap h''):Inv X pins σ H { s with heap:=h'' }:=by
 obtain⟨f0,f1,f2,f3,f4,f5⟩:=f
 exact I.turned (t':=s.toks) (fun b o hb e=>(hs.2 b hb).trans e) f0 f1 f3 f4 f5
theorem Br {tg elt iter:Expr}{ifs:List Expr}{pos:Pos}{wi:TI}{g:TG}{tt:TT}{te:TE}(xs fr:List Str)(js:List Nat)(hc:X.calm=true)(hS:Qs X.env.scope scope xs fr=true)(hjs:js.map (fun j=>X.N[j]?)=fr.map some)(hw:PI X tg iter wi)
  (hg:∀ C ex s₀ H₀,PG (cxC X scope xs fr C ex s₀ H₀) tg g) (hk:Va xs.length g) (hi:∀ C ex s₀ H₀,PIf (cxC X scope xs fr C ex s₀ H₀) ifs tt) (he:∀ C ex s₀ H₀,PE (cxC X scope xs fr C ex s₀ H₀) elt te)
  (hs:∀ x,foldedSetIterable iter X.env x=pure x:=by intro _;ac_nf) :
  PE X (.ListComp elt [⟨tg,iter,ifs,0⟩] scope pos) (Zc xs.length js wi g tt te):=by
 intro pins s σ H Q I h
 have S:=R0 hS
 rw[eval_ListComp]
 refine wpAny_comprehension_free (use:=none) rfl hs (Kl (S.cells I.ok)) S.kind S.names ?_
 refine thn (hw pins s σ H _ I h) fun v s1 h1=>thn h1 fun itv s2 h2=>?_
 obtain⟨it,fp,tn,J,H2,e,I2,T,st2,f2,q2⟩:=h2
 subst e
 refine Qw (Q:=Q) (R:=fun acc C=>compPost (model X.prog X.w) X.A X.xe none (EP X pins σ Q) acc C) hc S hjs hg hk hi he I2 T st2 f2 q2 ?_
 intro p C s' H' ⟨m,hn⟩ fC hI q
 exact⟨m,hn,fun h'' hs''=>⟨.ref p,H',hI.letgo fC hs'',rfl,q⟩⟩
theorem Dr {tg elt iter:Expr}{ifs:List Expr}{pos spos py:Pos}{wi:TI}{g:TG}{tt:TT}{te:TE}{i:Nat}{y:Str}(xs fr:List Str)(js:List Nat)(hc:X.calm=true)(hS:Qs X.env.scope scope xs fr=true)(hjs:js.map (fun j=>X.N[j]?)=fr.map some)
  (hN:X.N.Nodup) (hi':X.N[i]? = some y) (hy:X.env.scope.names.lookup y=some .local) (hw:PI X tg iter wi)
  (hg:∀ C ex s₀ H₀,PG (cxC X scope xs fr C ex s₀ H₀) tg g) (hk:Va xs.length g) (hi:∀ C ex s₀ H₀,PIf (cxC X scope xs fr C ex s₀ H₀) ifs tt) (he:∀ C ex s₀ H₀,PE (cxC X scope xs fr C ex s₀ H₀) elt te)
  (hsw:swapsWith (.ListComp elt [⟨tg,iter,ifs,0⟩] scope pos) (some (.Name y py)) spos.line X.env=pure true:=by ac_nf)
  (hs:∀ x,foldedSetIterable iter X.env x=pure x:=by intro _;ac_nf) :
  PS X (.Assign [.Name y py] (.ListComp elt [⟨tg,iter,ifs,0⟩] scope pos) spos) (a62 (Zc xs.length js wi g tt te) (Ir i)):=by
 intro pins s σ H D I h
 have S:=R0 hS
 rw[exec_Assign_Name_used _ _ _ _ hsw]
 refine wpAny_bind (wpAny_standAt (wpAny_bind ?_))
 show wpAny _ X.A (do let _ <- comprehension (.ListComp elt [⟨tg,iter,ifs,0⟩] scope pos) scope X.env _ (newList []) false (eval iter X.env) (some (assign (.Name y py) X.env))) _ _ s
 refine wpAny_bind (wpAny_mono (wpAny_comprehension_free (use:=some (assign (.Name y py) X.env)) (Q:=fun _ s'=>SP X pins D .next s') rfl hs (Kl (S.cells I.ok)) S.kind S.names ?_) (fun _ s' hq=>wpAny_pure (wpAny_pure hq)) fun _ _ e=>e)
 refine thn (hw pins s σ H _ I h) fun v s1 h1=>thn h1 fun itv s2 h2=>?_
 obtain⟨it,fp,tn,J,H2,e,I2,T,st2,f2,q2⟩:=h2
 subst e
 refine Qw (Q:=fun x H1=>Ir i x σ H1 D.nx) (R:=fun acc C=>compPost (model X.prog X.w) X.A X.xe (some (assign (.Name y py) X.env)) (fun _ s'=>SP X pins D .next s') acc C) hc S hjs hg hk hi he I2 T st2 f2 q2 ?_
 intro p C s' H' ⟨m,hn⟩ fC I' q
 show wpAny _ X.A (assign (.Name y py) X.env (.ref p)) _ _ s'
 refine wpAny_assign_Name (Mv I' hN hi' (.inl hy) (show RelV (.ref p) (.ref p) from rfl) (fun s'' I'' ⟨a,hs1,ha⟩=>?_) (.inr hy))
 have hne:C≠a:=by
  rcases ha with ha | ha
  . rw[ha];exact fC.2.1
  exact(fC.2.2.2.2.1 y a ha).symm
 exact⟨m,hn.sameBut hs1 hne,fun h'' hs''=>⟨_,H',I''.letgo fC hs'',q⟩⟩
end
def Its (x:Str):It:=⟨fun i _=>i<x.cps.size,fun i H v H'=>H'=H/\∃ c,x.cps[i]? = some c/\v = .str ⟨#[c]⟩,fun i _=>x.cps.size<=i⟩
section
variable {X:Cx}{tg:Expr}
theorem Ux {P:Program}{w:World}{K:PySem.W.Frag}{tg:Expr}{it:Addr}{n:Nat}{PV:Nat->Value->Prop}{val:Nat->V->Prop}{St:Nat->Heap->Prop}(W:∀ A:Around,A.handled=none->Walks P w A it [it] [it] n PV St)
  (hself:∀(A:Around) (i:Nat) (s:Shared) (Q:Value->Shared->Prop) (E:Value->Shared->Prop),St i s.heap->Q (.ref it) s->wpAny (model P w) A (pyIter (.ref it)) Q E s)
  (hv:∀ i u,PV i u->∃ v,RelV v u/\val i v) (hto:∀ i h,St i h->∃ o T vs,h.get? it=some o/\o.cls = .type T/\o.data = .fields vs/\["enumerate","zip","dict_itemiterator","dict_reverseitemiterator","odict_iterator","itertools.zip_longest","itertools.pairwise"].contains T=false) :
  Wo P w K tg ⟨fun i _=>i<n,fun i H v H'=>H'=H/\val i v,fun i _=>n<=i⟩ [it] it (fun i h=>St i h/\i<=n) where
 mem:=by simp
 obj:=fun i h st b hb=>by
  have e:b=it:=by simpa using hb
  subst e
  obtain⟨o,T,vs,e1,e2,e3,e4⟩:=hto i h st.1
  exact⟨o,e1,fun v z=>by rw[e3] at z;cases z⟩
 keep:=fun i h h' st k=>⟨(W { handled:=none } rfl).frame i h h' st.1 k,st.2⟩
 item:=by
  intro X hP hw hK hc i pins s σ H E I hf st hg
  subst hP hw hK
  obtain⟨f0,f1,f2,f3,f4,f5⟩:=hf it (by simp)
  refine(W X.A (I.ok.hd hc)).item i s _ _ hg st.1 fun u h' tk hp st' kk=>?_
  obtain⟨v,rv,vv⟩:=hv i u hp
  have I1:Inv X pins σ H { s with heap:=h',toks:=tk }:=I.turned (fun b o hb e=>kk b o (by simpa using hb) e) f0 f1 f3 f4 f5
  obtain⟨o,T,vs,e1,e2,e3,e4⟩:=hto _ _ st'
  exact⟨u,rfl,R3 (s:={ s with heap:=h',toks:=tk }) e1 e2 e3 e4 ⟨v,H,I1,rv,⟨rfl,vv⟩,⟨st',hg⟩,fun b hb=>(hf b hb).1⟩⟩
 done:=by
  intro X hP hw hK hc i pins s σ H E I hf st hg
  subst hP hw hK
  obtain⟨f0,f1,f2,f3,f4,f5⟩:=hf it (by simp)
  have e:i=n:=Nat.le_antisymm st.2 hg
  subst e
  exact(W X.A (I.ok.hd hc)).done s _ _ st.1 fun h' tk kk=>⟨rfl,I.turned (fun b o hb e=>kk b o (by simpa using hb) e) f0 f1 f3 f4 f5⟩
 self:=fun A i s Q E st h=>hself A i s Q E st.1 h
theorem ad1 {pins:List (Addr×Obj)}{σ:St}{H1:Hp}{s1:Shared}{R:It->Hp->Prop}{E:Value->Shared->Prop}{z:Str}{v:Value}(I1:Inv X pins σ H1 s1)(r1:RelV (.str z) v)(q:R (Its z) H1):wpAny (model X.prog X.w) X.A (pyIter v) (PIE X pins σ tg R) E s1:=by
 obtain⟨t,rfl⟩:=r1
 have sv:∀ i u,SignAt z i u->∃ v,RelV v u/\∃ c,z.cps[i]? = some c/\v = .str ⟨#[c]⟩:=fun i u ⟨c,tu,hc,hu⟩=>⟨.str ⟨#[c]⟩,⟨tu,hu⟩,c,hc,rfl⟩
 have fin:∀(o:Obj) (St:Nat->Heap->Prop) (n:Nat),St 0 (s1.heap.push o)->Wo X.prog X.w X.K tg (Its z) [s1.heap.objs.size] s1.heap.objs.size (fun i h=>St i h/\i<=z.cps.size)->PIE X pins σ tg R (.ref s1.heap.objs.size) { s1 with heap:=s1.heap.push o }:=fun o St n h0 T=>by
  refine⟨s1.heap.objs.size,[s1.heap.objs.size],_,_,H1,rfl,I1.kept (t':=s1.toks) fun b ob e=>Heap.get?_push_of_some _ e,T,⟨h0,Nat.zero_le _⟩,fun b hb=>?_,q⟩
  have e:b=s1.heap.objs.size:=by simpa using hb
  subst e
  exact I1.fpOk (Nat.le_refl _) (I1.hok.fresh (Nat.le_refl _))
 cases ha:z.cps.all (· < 128)
 . exact wpAny_pyIter_wide ha (fin _ _ 0 ⟨_,Heap.get?_push_size _ rfl,rfl,rfl⟩ (Ux (fun A hA=>Walks.strWide hA _ z t) (fun _ _ _ _ _ st hq=>wpAny_pyIter_striter_wide st hq) sv fun i h ⟨o,ho,hc,hd⟩=>⟨o,_,_,ho,hc,hd,by decide⟩))
 exact wpAny_pyIter_ascii ha (fin _ _ 0 ⟨_,Heap.get?_push_size _ rfl,rfl,rfl⟩ (Ux (fun A hA=>Walks.strAscii hA _ z t) (fun _ _ _ _ _ st hq=>wpAny_pyIter_striter_ascii st hq) sv fun i h ⟨o,ho,hc,hd⟩=>⟨o,_,_,ho,hc,hd,by decide⟩))
end
section
variable {X:Cx}
def an2:V->Option Int->Option Int->Hp->VK->Prop:=fun x lo hi H Q=>∃ z,x = .str z/\z.length<=sizeLine/\Q (.str (Txt.slice z lo hi)) H
theorem sl_str:SlR X an2:=by
 intro pins s σ H x v vl vu lo hi sl Q I rx hs pl pu h
 obtain⟨z,rfl,hz,q⟩:=h
 obtain⟨t,rfl⟩:=rx
 have fin:∀ t' k,EP X pins σ Q (.str (Txt.slice z lo hi) t') { s with toks:=k }:=fun t' k=>⟨.str _,H,I.tok _,⟨_,rfl⟩,q⟩
 have sz:=Nat.le_trans (Txt.slice_le z lo hi) hz
 refine⟨"str",_,F.slot_str_getitem.lookup,typeIs_str _ _ _,?_⟩
 cases pl with
 | none=>
   cases pu with
   | none=>exact wpAny_getItem_str_slice (l:=none) (u:=none) (st:=none) hs rfl (post_val_or_str ⟨sz,fin⟩)
   | int j uj=>exact wpAny_getItem_str_slice (l:=none) (u:=some (j,uj)) (st:=none) hs rfl (post_val_or_str ⟨sz,fin⟩)
 | int i ui=>
   cases pu with
   | none=>exact wpAny_getItem_str_slice (l:=some (i,ui)) (u:=none) (st:=none) hs rfl (post_val_or_str ⟨sz,fin⟩)
   | int j uj=>exact wpAny_getItem_str_slice (l:=some (i,ui)) (u:=some (j,uj)) (st:=none) hs rfl (post_val_or_str ⟨sz,fin⟩)
theorem Ry:CallR X (.builtin "repr") (fun xs H Q=>(∃ b,xs=[.bl b]/\Q (.str (if b then "True" else "False")) H)\/(xs=[.non]/\Q (.str "None") H)):=by
 intro pins s σ H xs us Q I r h
 rcases h with ⟨b,rfl,q⟩ | ⟨rfl,q⟩
 . obtain⟨u,rfl,ru⟩:=Gi r
   cases ru
   exact PySem.P.repr_of_bool ⟨.str _,H,I.tok _,⟨_,rfl⟩,q⟩
 obtain⟨u,rfl,ru⟩:=Gi r
 cases ru
 exact PySem.P.repr_of_none ⟨.str _,H,I.tok _,⟨_,rfl⟩,q⟩
end
section
variable {X:Cx}{x:Str}{pos:Pos}
end
section
variable {X:Cx}{K:PySem.W.Frag}
def ac0 (K:PySem.W.Frag):R2:=fun x y H Q=>∃ a b ys,x = .ref a/\y = .ref b/\SqT K H a []/\SqT K H b ys/\Q (.ref b) H
theorem Z5:OpR X (binaryOp .Add) (ac0 X.K):=by
 intro pins s σ H x y v u Q I rx ry h
 obtain⟨a,b,ys,rfl,rfl,ha,hb,q⟩:=h
 cases rx
 cases ry
 obtain⟨its,r1,p1,_⟩:=I.tuple ha
 obtain⟨its2,r2,p2,_⟩:=I.tuple hb
 cases r1
 obtain⟨⟨cls,dd,data,sl⟩,ho,hc,n,hd⟩:=id p1
 obtain⟨⟨cls2,dd2,data2,sl2⟩,ho2,hc2,n2,hd2⟩:=id p2
 simp only at hc hd hc2 hd2
 subst hc hd hc2 hd2
 exact concat_meets ⟨_,ho,rfl⟩ ⟨_,ho2,rfl⟩ noFill_tuple_add seq_tuple_add PySem.F.slot_tuple_add PySem.F.entry_tuple_add (PySem.F.args_tuple_add_2 _ _) (tuple_addW0 a b _ _ n n2 dd dd2 sl sl2 (by simp)) ⟨ho,ho2,⟨.ref b,H,I,rfl,q⟩⟩
def an1 (K:PySem.W.Frag):V->Option Int->Option Int->Hp->VK->Prop:=fun x lo hi H Q=>∃ a xs,x = .ref a/\SqT K H a xs/\(HT.sIx xs.length 0 lo=0/\HT.sIx xs.length xs.length hi=xs.length)/\Q (.ref a) H
theorem Wx:SlR X (an1 X.K):=by
 intro pins s σ H x v vl vu lo hi sl Q I rx hs pl pu h
 obtain⟨a,xs,rfl,hx,hw,q⟩:=h
 cases rx
 obtain⟨its,r,ht,hz⟩:=I.tuple hx
 have hlen:its.toArray.size=xs.length:=by rw[List.size_toArray];exact r.length.symm
 refine⟨"tuple",_,PyProof.Rows.slot_tuple_getitem.lookup,ht.typeIs,?_⟩
 obtain⟨os,hos,hcs,hds⟩:=id hs
 have hTs:s.TypeIs (.ref sl) "slice":=⟨os,hos,hcs⟩
 unfold getItem
 try with_reducible refine wpAny_holding ?_
 first | refine wpAny_bind (wpAny_pure ?_) | skip
 refine wpAny_bind (wpAny_sequenceKey ht.typeIs (by decide) ?_)
 refine wpAny_bind (wpAny_callSpecial?_slot (name:=Str.ofString "__getitem__") ht.typeIs PyProof.Rows.slot_tuple_getitem (wpAny_call_entry PyProof.Rows.slot_tuple_getitem ht.typeIs entry_tuple_getitem ?_ (args_tuple_getitem _ _)))
 refine wpAny_bind (m:=Builtin.Tuple.tupleItemsOf (.ref a)) (tupleItemsOf_ ht ?_)
 refine wpAny_bind (wpAny_typeOf hTs ?_)
 rw[if_pos (by decide)]
 refine wpAny_bind (HT.sliceApplied_gen hs pl pu ?_)
 have yes:(((HT.sIx its.toArray.size 0 lo:Nat):Int)==0&&(1:Int)==1&&(HT.sIx its.toArray.size its.toArray.size hi-HT.sIx its.toArray.size 0 lo)==its.toArray.size)=true:=by
  rw[hlen,hw.1,hw.2]
  simp
 show wpAny _ _ (if(((HT.sIx its.toArray.size 0 lo:Nat):Int)==0&&(1:Int)==1&&(HT.sIx its.toArray.size its.toArray.size hi-HT.sIx its.toArray.size 0 lo)==its.toArray.size)=true then _ else _) _ _ s
 rw[if_pos yes]
 have fin:∀ s',s'=s->EP X pins σ Q (.ref a) s':=fun s' e=>by subst e;exact⟨.ref a,H,I,rfl,q⟩
 unfold Builtin.Tuple.tupleIsExact
 obtain⟨hp,g,d,tk,os⟩:=s
 have hT:=ht.typeIs
 repeat (any_goals (first | assumption | wp_step))
 exact⟨_,rfl,wpAny_pure (fin _ rfl)⟩
end
theorem Inv.freeze {X:Cx}{pins:List (Addr×Obj)}{σ:St}{H:Hp}{s:Shared}{d:Addr}{kvs:List (Key×V)}{o:Obj}(I:Inv X pins σ H s)(hd:H d=some (.dK kvs))(ho:s.heap.get? d=some o):Inv X pins σ (upd H d (.frz o (.dK kvs))) s:=by
 have nn:∀ b,H b=none->upd H d (.frz o (.dK kvs)) b=none:=fun b h=>by rw[Aq (Ne.symm (ne_of_none hd h))];exact h
 have other:∀ b u,H b=some u->u ≠ .dK kvs->upd H d (.frz o (.dK kvs)) b=some u:=fun b u h q=>by rw[Aq (ne_of h hd q)];exact h
 refine⟨I.ok,I.os,I.bare,⟨I.base.keep,I.base.slot,fun b ob q n hx=>nn b (I.base.free b ob q n hx),I.base.there,fun b xs q=>other b _ (I.base.tups b xs q) (by intro z;cases z),fun b ob u q=>other b _ (I.base.frzs b ob u q) (by intro z;cases z),fun b ps q=>?_⟩,I.loc,I.cell,nn _ I.free,fun x c q=>nn _ (I.freeC x c q),fun p hp=>?_,fun b u q=>?_,I.len⟩
 . obtain⟨more,h⟩:=I.base.tbls b ps q
   exact⟨more,other b _ h (by intro z;cases z)⟩
 . obtain⟨a1,a2,a3⟩:=I.pin p hp
   exact⟨a1,nn _ a2,a3⟩
 by_cases e:b=d
 . subst e
   rw[A9] at q
   cases q
   exact⟨ho,(I.hok b _ hd).stay (fun c v hc z=>z) (fun c z=>other c _ z (by intro w;cases w)) fun c xs z=>other c _ z (by intro w;cases w)⟩
 rw[Aq e] at q
 exact(I.hok b u q).stay (fun c v hc z=>z) (fun c z=>other c _ z (by intro w;cases w)) fun c xs z=>other c _ z (by intro w;cases w)
def Itd (a:Addr)(o:Obj)(kvs:List (Key×V)):It:=
 ⟨fun i H=>H a=some (.frz o (.dK kvs))/\i<kvs.length,fun i H x H'=>H'=H/\∃ kv,kvs[i]? = some kv/\x=kV kv.1,fun i H=>H a=some (.frz o (.dK kvs))/\kvs.length<=i⟩
theorem Vf {k:Key}{u:Value}(h:Pe k u=true):RelV (kV k) u:=by
 rcases Bc h with ⟨i,t,rfl,rfl⟩ | ⟨x,t,rfl,rfl⟩
 . exact⟨t,rfl⟩
 exact⟨t,rfl⟩
theorem Si {X:Cx}{pins:List (Addr×Obj)}{σ:St}{H:Hp}{s:Shared}{a:Addr}{kvs:List (Key×V)}{o:Obj}{es:Array DictEntry}{ep:Nat}(I:Inv X pins σ H s)(h:H a=some (.frz o (.dK kvs)))(ho:o.data = .dict es ep):∃ vs,KV kvs vs/\s.heap.DictAt (Ap X.prog X.w) a vs ep:=by
 obtain⟨h1,_,_,vs,r,o',es',ep',h2,c,hd,rest⟩:=I.hok a _ h
 rw[h1] at h2
 cases h2
 rw[ho] at hd
 cases hd
 exact⟨vs,r,o,es,h1,c,ho,rest⟩
theorem KV.get:∀ {kvs:List (Key×V)} {vs:List (Key×Value)} {i:Nat} {kv:Key×V},KV kvs vs->kvs[i]? = some kv->∃ u,vs[i]? = some (kv.1,u)/\RelV kv.2 u
 | _,_,_,_,.nil,e=>by simp at e
 | _,_,0,kv,.cons r _,e=>by
   simp at e
   subst e
   exact⟨_,congrArg some (Prod.ext r.1.symm rfl),r.2⟩
 | _,_,i+1,kv,.cons _ t,e=>by
   obtain⟨u,h1,h2⟩:=KV.get (i:=i) t (by simpa using e)
   exact⟨u,by simpa using h1,h2⟩
theorem Nd {P:Program}{w:World}{K:PySem.W.Frag}{tg:Expr}(a it:Addr)(o:Obj)(kvs:List (Key×V))(es:Array DictEntry)(ep:Nat)(hd:o.data = .dict es ep):Wo P w K tg (Itd a o kvs) [it] it (fun i h=>h.IsKeyIter it a i kvs.length ep) where
 mem:=by simp
 obj:=fun i h st b hb=>by
  have e:b=it:=by simpa using hb
  subst e
  obtain⟨o,e,c,d⟩:=st
  exact⟨o,e,fun v z=>by rw[d] at z;cases z⟩
 keep:=fun i h h' st k=>st.at fun o e=>k it (by simp) o e
 item:=by
  intro X hP hw hK hc i pins s σ H E I hf st hg
  subst hP hw hK
  obtain⟨hH,hi⟩:=hg
  obtain⟨vs,rv,hat⟩:=Si I hH hd
  have hl:kvs.length=vs.length:=Paired.length rv
  obtain⟨kv,hkv⟩:∃ kv,kvs[i]? = some kv:=⟨kvs[i],List.getElem?_eq_getElem hi⟩
  obtain⟨u,hu,_⟩:=KV.get rv hkv
  obtain⟨f0,f1,f2,f3,f4,f5⟩:=hf it (by simp)
  rw[hl] at st
  refine wpAny_pyNext_dict_item st hat hu fun key h' hkey hit' hs'=>?_
  have I1:Inv X pins σ H { s with heap:=h' }:=I.turned (t':=s.toks) (fun b o hb e=>(hs'.2 b hb).trans e) f0 f1 f3 f4 f5
  obtain⟨o',e,c,d⟩:=id hit'
  exact⟨key,rfl,R3 (s:={ s with heap:=h' }) e c d (by decide) ⟨kV kv.1,H,I1,Vf hkey,⟨rfl,kv,hkv,rfl⟩,by rw[hl];exact hit',fun b hb=>(hf b hb).1⟩⟩
 done:=by
  intro X hP hw hK hc i pins s σ H E I hf st hg
  subst hP hw hK
  obtain⟨hH,hi⟩:=hg
  obtain⟨vs,rv,hat⟩:=Si I hH hd
  have hl:kvs.length=vs.length:=Paired.length rv
  obtain⟨f0,f1,f2,f3,f4,f5⟩:=hf it (by simp)
  rw[hl] at st
  exact wpAny_pyNext_dict_end (I.ok.hd hc) st hat (List.getElem?_eq_none (by omega)) fun h' eb=>⟨rfl,I.turned (t':=s.toks) (fun b o hb e=>eb b o hb e) f0 f1 f3 f4 f5⟩
 self:=fun A i s Q E st hQ=>wpAny_pyIter_keyiter st hQ
theorem a34 {X:Cx}{tg:Expr}{pins:List (Addr×Obj)}{σ:St}{H:Hp}{s:Shared}{a:Addr}{kvs:List (Key×V)}{R:It->Hp->Prop}{E:Value->Shared->Prop}(I:Inv X pins σ H s)(h:H a=some (.dK kvs))(q:∀ o,R (Itd a o kvs) (upd H a (.frz o (.dK kvs)))) :
  wpAny (model X.prog X.w) X.A (pyIter (.ref a)) (PIE X pins σ tg R) E s:=by
 obtain⟨_,hs,vs,rv,o,es,ep,ho,c,hd,rest⟩:=I.hok a _ h
 have I1:=I.freeze h ho
 have hl:kvs.length=vs.length:=Paired.length rv
 refine wpAny_pyIter_dict (knd:=Ap X.prog X.w) hs ⟨o,es,ho,c,hd,rest⟩ ?_
 rw[<- hl]
 refine⟨s.heap.objs.size,[s.heap.objs.size],_,_,_,rfl,I1.kept (t':=s.toks) fun b o e=>Heap.get?_push_of_some _ e,Nd a _ o kvs es ep hd,⟨_,Heap.get?_push_size _ rfl,rfl,rfl⟩,fun b hb=>?_,q o⟩
 have e:b=s.heap.objs.size:=by simpa using hb
 subst e
 exact I1.fpOk (Nat.le_refl _) (I1.hok.fresh (Nat.le_refl _))
theorem Xe {X:Cx}{tg:Expr}{pins:List (Addr×Obj)}{σ:St}{H:Hp}{s:Shared}{a:Addr}{kvs:List (Key×V)}{o:Obj}{R:It->Hp->Prop}{E:Value->Shared->Prop}(I:Inv X pins σ H s)(h:H a=some (.frz o (.dK kvs)))(q:R (Itd a o kvs) H) :
  wpAny (model X.prog X.w) X.A (pyIter (.ref a)) (PIE X pins σ tg R) E s:=by
 obtain⟨ho',_,hs,vs,rv,o',es,ep,ho,c,hd,rest⟩:=I.hok a _ h
 rw[ho'] at ho
 cases ho
 have hl:kvs.length=vs.length:=Paired.length rv
 refine wpAny_pyIter_dict (knd:=Ap X.prog X.w) hs ⟨o,es,ho',c,hd,rest⟩ ?_
 rw[<- hl]
 refine⟨s.heap.objs.size,[s.heap.objs.size],_,_,_,rfl,I.kept (t':=s.toks) fun b o e=>Heap.get?_push_of_some _ e,Nd a _ o kvs es ep hd,⟨_,Heap.get?_push_size _ rfl,rfl,rfl⟩,fun b hb=>?_,q⟩
 have e:b=s.heap.objs.size:=by simpa using hb
 subst e
 exact I.fpOk (Nat.le_refl _) (I.hok.fresh (Nat.le_refl _))
theorem Same.seqT {K:PySem.W.Frag}{H H':Hp}{a:Addr}{xs:List V}(e:Same H H')(h:SqT K H a xs):SqT K H' a xs:=by
 rcases h with (h | ⟨o,h⟩) | h
 . exact .inl (.inl (e _ _ h))
 . exact .inl (.inr ⟨o,e _ _ h⟩)
 exact .inr h
mutual
def Is (K:PySem.W.Frag)(H:Hp):PyData->V->Prop
 | .none,v=>v = .non
 | .bool b,v=>v = .bl b
 | .int i,v=>v = .int i
 | .str x,v=>v = .str x
 | .list ds,v=>∃ a xs,v = .ref a/\SqL K H a xs/\IsL K H ds xs
 | .tuple ds,v=>∃ a xs,v = .ref a/\SqT K H a xs/\IsL K H ds xs
 | .dict _,_=>False
def IsL (K:PySem.W.Frag)(H:Hp):List PyData->List V->Prop
 | [],vs=>vs=[]
 | d :: ds,vs=>∃ v r,vs=v :: r/\Is K H d v/\IsL K H ds r
end
mutual
theorem Is.mono {K:PySem.W.Frag}{H H':Hp}(e:Same H H'):∀(d:PyData) (v:V),Is K H d v->Is K H' d v
 | .none,_,h=>by simp only[Is] at h ⊢;exact h
 | .bool _,_,h=>by simp only[Is] at h ⊢;exact h
 | .int _,_,h=>by simp only[Is] at h ⊢;exact h
 | .str _,_,h=>by simp only[Is] at h ⊢;exact h
 | .list ds,v,h=>by
   simp only[Is] at h ⊢
   obtain⟨a,xs,e1,e2,e3⟩:=h
   exact⟨a,xs,e1,e.seq e2,IsL.mono e ds xs e3⟩
 | .tuple ds,v,h=>by
   simp only[Is] at h ⊢
   obtain⟨a,xs,e1,e2,e3⟩:=h
   exact⟨a,xs,e1,e.seqT e2,IsL.mono e ds xs e3⟩
 | .dict _,_,h=>by simp only[Is] at h
theorem IsL.mono {K:PySem.W.Frag}{H H':Hp}(e:Same H H'):∀(ds:List PyData) (vs:List V),IsL K H ds vs->IsL K H' ds vs
 | [],_,h=>by simp only[IsL] at h ⊢;exact h
 | d :: ds,vs,h=>by
   simp only[IsL] at h ⊢
   obtain⟨v,r,e1,e2,e3⟩:=h
   exact⟨v,r,e1,Is.mono e d v e2,IsL.mono e ds r e3⟩
end
section
variable {X:Cx}{pins:List (Addr×Obj)}{σ:St}{H:Hp}{s:Shared}
mutual
theorem Is.reads (I:Inv X pins σ H s):∀(d:PyData) (v:V) (u:Value),Is X.K H d v->RelV v u->∃ as,Reads s.heap u d as
 | .none,v,u,i,r=>by
   simp only[Is] at i
   subst i
   cases r
   exact⟨_,.none⟩
 | .bool b,v,u,i,r=>by
   simp only[Is] at i
   subst i
   cases r
   exact⟨_,.bool b⟩
 | .int n,v,u,i,r=>by
   simp only[Is] at i
   subst i
   obtain⟨t,rfl⟩:=r
   exact⟨_,.int n t⟩
 | .str x,v,u,i,r=>by
   simp only[Is] at i
   subst i
   obtain⟨t,rfl⟩:=r
   exact⟨_,.str x t⟩
 | .list ds,v,u,i,r=>by
   simp only[Is] at i
   obtain⟨a,xs,rfl,e2,e3⟩:=i
   cases r
   obtain⟨its,rv,⟨o,n,e,hc,hd,hs⟩,_⟩:=I.list e2
   obtain⟨as,ra⟩:=IsL.reads I ds xs its e3 rv
   exact⟨_,.list e hc hs (by simpa using ra)⟩
 | .tuple ds,v,u,i,r=>by
   simp only[Is] at i
   obtain⟨a,xs,rfl,e2,e3⟩:=i
   cases r
   obtain⟨its,rv,⟨o,e,hc,n,hd⟩,_⟩:=I.tuple e2
   obtain⟨as,ra⟩:=IsL.reads I ds xs its e3 rv
   exact⟨_,.tuple e hc hd (by simpa using ra)⟩
 | .dict _,_,_,i,_=>by simp only[Is] at i
theorem IsL.reads (I:Inv X pins σ H s):∀(ds:List PyData) (vs:List V) (us:List Value),IsL X.K H ds vs->Vals vs us->∃ as,ReadsAll s.heap us ds as
 | [],vs,us,i,r=>by
   simp only[IsL] at i
   subst i
   cases r
   exact⟨_,.nil⟩
 | d :: ds,vs,us,i,r=>by
   simp only[IsL] at i
   obtain⟨v,rr,rfl,e2,e3⟩:=i
   cases r with
   | cons r1 r2=>
     obtain⟨a1,h1⟩:=Is.reads I d v _ e2 r1
     obtain⟨a2,h2⟩:=IsL.reads I ds rr _ e3 r2
     exact⟨_,.cons h1 h2⟩
end
end
theorem W0 {K:PySem.W.Frag}{H:Hp}:∀ ns:List Int,IsL K H (ns.map PyData.int) (ns.map V.int)
 | []=>by simp only[List.map_nil,IsL]
 | n :: r=>by
   simp only[List.map_cons,IsL]
   exact⟨_,_,rfl,by simp only[Is],W0 r⟩
theorem Tk {K:PySem.W.Frag}{H:Hp}:∀ ns:List Str,IsL K H (ns.map PyData.str) (ns.map V.str)
 | []=>by simp only[List.map_nil,IsL]
 | n :: r=>by
   simp only[List.map_cons,IsL]
   exact⟨_,_,rfl,by simp only[Is],Tk r⟩
theorem Qy {K:PySem.W.Frag}{H:Hp}{a:Addr}{ns:List Int}(h:SqL K H a (ns.map V.int)):Is K H (.list (ns.map PyData.int)) (.ref a):=by
 simp only[Is]
 exact⟨a,_,rfl,h,W0 ns⟩
structure QA (A:Around):Prop where
 un:A.units+150<cLine
 gd:A.guards=some []
theorem Cu {A:Around}{k:Nat}(hr:Room k A):QA A:=⟨by have:=hr.un;omega,hr.gd⟩
section
variable {X:Cx}
def Rj (K:PySem.W.Frag):R2:=fun x y H Q=>(∃ i j,x = .int i/\y = .int j/\Q (.int (i+j)) H)\/(∃ i j,x = .str i/\y = .str j/\i.length+j.length<=sizeLine/\Q (.str (i++j)) H)\/am9 x y H Q\/ag4 K x y H Q\/ac0 K x y H Q
theorem Z4:OpR X (binaryOp .Add) (Rj X.K):=op_add.or (op_add_str.or (op_cat.or (op_catT.or Z5)))
def Xr:R2:=fun x y H Q=>(∃ i j,x = .int i/\y = .int j/\CMul i j/\Q (.int (i*j)) H)\/am5 x y H Q
theorem op_mulA:OpR X (binaryOp .Mult) Xr:=op_mul.or a65
theorem Ij:OpR X (binaryOp .FloorDiv) (rI aj6 fun i j=>.int (i / j)):=a39
def ai4 (K:PySem.W.Frag)(neg:Bool):R2:=fun x y H Q=>∃ dx dy,Is K H dx x/\Is K H dy y/\SeqAt.shaped dx=true/\SeqAt.shaped dy=true/\Q (.bl (if neg then !PyData.eqv dx dy else PyData.eqv dx dy)) H
theorem ae7 (hq:QA X.A):OpR X (compareOp .Eq) (ai4 X.K false):=by
 intro pins s σ H x y v u Q I rx ry h
 obtain⟨dx,dy,ix,iy,sx,sy,q⟩:=h
 obtain⟨as,ra⟩:=Is.reads I dx x v ix rx
 obtain⟨bs,rb⟩:=Is.reads I dy y u iy ry
 exact eq_dataH ra rb sx sy (by have:=hq.un;omega) ⟨.bl _,H,I,rfl,q⟩
theorem a71 (hq:QA X.A):OpR X (compareOp .NotEq) (ai4 X.K true):=by
 intro pins s σ H x y v u Q I rx ry h
 obtain⟨dx,dy,ix,iy,sx,sy,q⟩:=h
 obtain⟨as,ra⟩:=Is.reads I dx x v ix rx
 obtain⟨bs,rb⟩:=Is.reads I dy y u iy ry
 exact ne_dataH ra rb sx sy (by have:=hq.un;omega) ⟨.bl _,H,I,rfl,q⟩
def ai1 (K:PySem.W.Frag):R2:=fun x y H Q=>rEq x y H Q\/ai4 K false x y H Q
def al0 (K:PySem.W.Frag):R2:=fun x y H Q=>rNe x y H Q\/ai4 K true x y H Q
theorem a63 (hq:QA X.A):OpR X (compareOp .Eq) (ai1 X.K):=op_eq.or (ae7 hq)
theorem a79 (hq:QA X.A):OpR X (compareOp .NotEq) (al0 X.K):=op_ne.or (a71 hq)
def rInT (neg:Bool):R2:=fun x y H Q=>∃ i j,x = .str i/\y = .str j/\Q (.bl (if neg then !(!(Builtin.Str.occurrences j i 0 j.length 1).isEmpty) else !(Builtin.Str.occurrences j i 0 j.length 1).isEmpty)) H
def aj5 (neg:Bool):R2:=fun x y H Q=>∃ a o,y = .ref a/\DGet H a x o/\Q (.bl (if neg then !o.isSome else o.isSome)) H
theorem ad9 (hu:X.A.units+1<cLine):OpR X (compareOp .In) (aj5 false):=by
 intro pins s σ H x y v u Q I rx ry h
 obtain⟨a,o,rfl,g,q⟩:=h
 cases ry
 exact d_in hu I g rx fun s' I'=>⟨.bl _,H,I',rfl,q⟩
theorem T5 (hu:X.A.units+1<cLine):OpR X (compareOp .NotIn) (aj5 true):=by
 intro pins s σ H x y v u Q I rx ry h
 obtain⟨a,o,rfl,g,q⟩:=h
 cases ry
 exact Z6 hu I g rx fun s' I'=>⟨.bl _,H,I',rfl,q⟩
def al7 (K:PySem.W.Frag)(neg:Bool):R2:=fun x y H Q=>∃ d ds,Is K H d x/\(Is K H (.list ds) y\/Is K H (.tuple ds) y)/\PyData.canLayAll0 ds=true/\d.canLay0=true/\d.depth<=100/\Q (.bl (if neg then !(ds.any fun e=>PyData.eqv e d) else ds.any fun e=>PyData.eqv e d)) H
theorem a92 (hq:QA X.A):OpR X (compareOp .In) (al7 X.K false):=by
 intro pins s σ H x y v u Q I rx ry h
 obtain⟨d,ds,ix,iy,h1,h2,h3,q⟩:=h
 obtain⟨bs,rb⟩:=Is.reads I d x v ix rx
 rcases iy with iy | iy
 . obtain⟨as,ra⟩:=Is.reads I _ y u iy ry
   exact SeqAt.in_list_reads ra rb h1 h2 (by have:=hq.un;have:=Nat.min_le_right (PyData.depthAll ds) d.depth;omega) ⟨.bl _,H,I,rfl,q⟩
 obtain⟨as,ra⟩:=Is.reads I _ y u iy ry
 exact SeqAt.in_tuple_reads ra rb h1 h2 (by have:=hq.un;have:=Nat.min_le_right (PyData.depthAll ds) d.depth;omega) ⟨.bl _,H,I,rfl,q⟩
theorem Ul (hq:QA X.A):OpR X (compareOp .NotIn) (al7 X.K true):=by
 intro pins s σ H x y v u Q I rx ry h
 obtain⟨d,ds,ix,iy,h1,h2,h3,q⟩:=h
 obtain⟨bs,rb⟩:=Is.reads I d x v ix rx
 rcases iy with iy | iy
 . obtain⟨as,ra⟩:=Is.reads I _ y u iy ry
   exact SeqAt.notIn_list_reads ra rb h1 h2 (by have:=hq.un;have:=Nat.min_le_right (PyData.depthAll ds) d.depth;omega) ⟨.bl _,H,I,rfl,q⟩
 obtain⟨as,ra⟩:=Is.reads I _ y u iy ry
 exact SeqAt.notIn_tuple_reads ra rb h1 h2 (by have:=hq.un;have:=Nat.min_le_right (PyData.depthAll ds) d.depth;omega) ⟨.bl _,H,I,rfl,q⟩
def Wq (K:PySem.W.Frag)(neg:Bool):R2:=fun x y H Q=>rIn K neg x y H Q\/rInT neg x y H Q\/aj5 neg x y H Q\/al7 K neg x y H Q
theorem QA.hu {A:Around}(h:QA A):A.units+1<cLine:=by have:=h.un;omega
theorem a78 (hq:QA X.A):OpR X (compareOp .In) (Wq X.K false):=op_in_seq.or (op_in_str.or ((ad9 hq.hu).or (a92 hq)))
theorem Tq (hq:QA X.A):OpR X (compareOp .NotIn) (Wq X.K true):=op_notIn_seq.or (op_notIn_str.or ((T5 hq.hu).or (Ul hq)))
def a57 (K:PySem.W.Frag):V->Option Int->Option Int->Hp->VK->Prop:=fun x lo hi H Q=>an5 K x lo hi H Q\/am3 K x lo hi H Q\/an2 x lo hi H Q\/an1 K x lo hi H Q
theorem sl_A:SlR X (a57 X.K):=sl_list.or (sl_tup.or (sl_str.or Wx))
def an6:R2:=fun x y H Q=>∃ a v,x = .ref a/\DGet H a y (some v)/\Q v H
theorem Zx (hu:X.A.units+1<cLine):IxR X an6:=by
 intro value slice pins s σ H x y v u Q I rx ry h hs
 obtain⟨a,z,rfl,g,q⟩:=h
 cases rx
 exact tail_any (Pg I g) PySem.F.slot_dict_getitem.lookup (Tu hu I g ry fun w' s' I' rw'=>⟨z,H,I',rw',q⟩) hs
def Jx (K:PySem.W.Frag):R2:=fun x y H Q=>rIx K x y H Q\/an6 x y H Q
theorem ac8 (hu:X.A.units+1<cLine):IxR X (Jx X.K):=ix_seq.or (Zx hu)
def Ro (K:PySem.W.Frag):List V->Hp->VK->Prop:=fun xs H Q=>(∃ x n,xs=[x]/\ao0 K x H n/\Q (.int n) H)\/∃ a kvs,xs=[V.ref a]/\H a=some (.dK kvs)/\Q (.int kvs.length) H
theorem Sv:CallR X (.builtin "len") (Ro X.K):=call_len.or Ts
def Pj (K:PySem.W.Frag):List V->Hp->VK->Prop:=fun xs H Q=>∃ p ys,xs=[.ref p]/\(SqL K H p ys\/SqT K H p ys)/\∀ l,H l=none->Q (.ref l) (upd H l (.lst ys))
theorem Rx:CallR X (.type "list") (Pj X.K):=Mz
def Lu (K:PySem.W.Frag):List V->Hp->VK->Prop:=fun xs H Q=>∃ p ys,xs=[.ref p]/\((SqL K H p ys/\∀ l,H l=none->Q (.ref l) (upd H l (.tup ys)))\/(SqT K H p ys/\Q (.ref p) H))
theorem Pf:CallR X (.type "tuple") (Lu X.K):=Kq
def ad5:List V->Hp->VK->Prop:=fun xs H Q=>(∃ b,xs=[.bl b]/\Q (.str (if b then "True" else "False")) H)\/(xs=[.non]/\Q (.str "None") H)
theorem Ke:CallR X (.builtin "repr") ad5:=Ry
def ae3:List V->Hp->VK->Prop:=fun xs H Q=>(∃ i,xs=[.int i]/\Q (.int i) H)\/∃ k,xs=[.bl k]/\Q (.int (if k then 1 else 0)) H
theorem Nr:CallR X (.type "int") ae3:=W3
variable {tg:Expr}
def Du (K:PySem.W.Frag)(x:V)(H1:Hp)(R:It->Hp->Prop):Prop:=(∃ a,x = .ref a/\(∃ xs,SqL K H1 a xs)/\R (Itl K a) H1)\/(∃ a,x = .ref a/\(∃ xs,SqT K H1 a xs)/\R (Itt K a) H1)\/(∃ z,x = .str z/\R (Its z) H1)\/∃ a kvs,x = .ref a/\((H1 a=some (.dK kvs)/\∀ o,R (Itd a o kvs) (upd H1 a (.frz o (.dK kvs))))\/∃ o,H1 a=some (.frz o (.dK kvs))/\R (Itd a o kvs) H1)
def aj9 (K:PySem.W.Frag)(tl:TE):TI:=fun σ H R=>tl σ H fun x H1=>Du K x H1 R
theorem af5 (hu:X.A.units+1<cLine){l:Expr}{tl:TE}(hl:PE X l tl):PI X tg l (aj9 X.K tl):=by
 intro pins s σ H R I h
 refine thn (hl pins s σ H _ I h) fun v s1 ⟨x,H1,I1,r1,q1⟩=>?_
 rcases q1 with ⟨a,e,⟨xs,hq⟩,q⟩ | ⟨a,e,⟨xs,hq⟩,q⟩ | ⟨z,e,q⟩ | ⟨a,kvs,e,q⟩
 . subst e
   cases r1
   obtain⟨its,rv,p,hz⟩:=I1.list hq
   refine wpAny_pyIter_list p.isList ?_
   refine⟨s1.heap.objs.size,[s1.heap.objs.size],_,_,H1,rfl,I1.kept (t':=s1.toks) fun b o e=>Heap.get?_push_of_some _ e,Wj a _,⟨_,Heap.get?_push_size _ rfl,rfl,rfl⟩,fun b hb=>?_,q⟩
   have e:b=s1.heap.objs.size:=by simpa using hb
   subst e
   exact I1.fpOk (Nat.le_refl _) (I1.hok.fresh (Nat.le_refl _))
 . subst e
   cases r1
   obtain⟨its,rv,p,hz⟩:=I1.tuple hq
   refine wpAny_pyIter_tuple (show s1.heap.IsTuple a its.toArray from p) ?_
   refine⟨s1.heap.objs.size,[s1.heap.objs.size],_,_,H1,rfl,I1.kept (t':=s1.toks) fun b o e=>Heap.get?_push_of_some _ e,Rz a _,⟨_,Heap.get?_push_size _ rfl,rfl,rfl⟩,fun b hb=>?_,q⟩
   have e:b=s1.heap.objs.size:=by simpa using hb
   subst e
   exact I1.fpOk (Nat.le_refl _) (I1.hok.fresh (Nat.le_refl _))
 . subst e
   exact ad1 I1 r1 q
 subst e
 cases r1
 rcases q with ⟨hd,q⟩ | ⟨o,hd,q⟩
 . exact a34 I1 hd q
 exact Xe I1 hd q
end
def Fnd (P:Program)(w:World)(K:PySem.W.Frag)(mg:Str->Option Value)(base:Heap)(k:Nat)(x:Str)(ps:List Str)(sp:Sp):Prop:=
 ∃ f fd,FnOk P w K mg base CX0 k f fd ps sp/\mg x=some (.ref f)/\PySem.W.keepIn K (.ref f)=true/\Binds K fd ps []
section
variable {X:Cx}{k:Nat}{x:Str}{ps:List Str}{sp:Sp}{e:Expr}{es:List Expr}{t:TA}{p pos:Pos}
theorem As (F:Fnd X.prog X.w X.K X.mg X.base k x ps sp)(hr:Room k X.A)(hg:Gl X x)(ha:PA X (e :: es) t)(hdb:(x==("__debug__":Str))=false:=by decide)
  (he:starEach (e :: es) X.env=(false,eval e X.env) :: starEach es X.env:=by ac_nf) (hpl:(backTo pos (starEach es X.env)).any (·.1)=false:=by ac_nf):PE X (.Call (.Name x p) (e :: es) [] pos) (a40 sp [] E0 t):=by
 obtain⟨f,fd,h1,h2,h3,h4⟩:=F
 exact a03 h1 hr hg h2 h3 h4 .nil Zz ha hdb he hpl
end
def ExtBut (d:Addr)(H H':Hp):Prop:=∀ b o,b≠d->H b=some o->H' b=some o
theorem Same.lk {H H':Hp}{a:Addr}{o:HO}(e:Same H H')(h:H a=some o):H' a=some o:=e a o h
theorem ExtBut.lk {d:Addr}{H H':Hp}{a:Addr}{o:HO}(e:ExtBut d H H')(h:H a=some o)(n:a≠d):H' a=some o:=e a o n h
theorem Same.upd {H:Hp}{p:Addr}{o:HO}(h:H p=none):Same H (upd H p o):=fun b u e=>by rw[Aq (ne_of_none e h)];exact e
theorem ExtBut.upd {H:Hp}{p:Addr}{o:HO}:ExtBut p H (upd H p o):=fun b u n e=>by rw[Aq n];exact e
theorem Same.but {d:Addr}{H H':Hp}(e:Same H H'):ExtBut d H H':=fun b o _ h=>e b o h
theorem ExtBut.trans {d:Addr}{H H1 H2:Hp}(a:ExtBut d H H1)(b:ExtBut d H1 H2):ExtBut d H H2:=fun c o n h=>b c o n (a c o n h)
theorem ExtBut.same {d:Addr}{H H1 H2:Hp}(a:ExtBut d H H1)(b:Same H1 H2):ExtBut d H H2:=fun c o n h=>b c o (a c o n h)
theorem ExtBut.refl {d:Addr}{H:Hp}:ExtBut d H H:=fun _ _ _ h=>h
def ae9 (xs:List V)(H:Hp)(Q:VK):Prop:=xs.length<=sizeLine/\∀ p,H p=none->Q (.ref p) (upd H p (.tup xs))
def a66 (xs:List V)(H:Hp)(Q:VK):Prop:=xs.length<=sizeLine/\∀ p,H p=none->Q (.ref p) (upd H p (.lst xs))
def ad0 (vs:List V)(H:Hp)(R:It->Hp->Prop):Prop:=∃ j:Int,vs=[.int j] /\ -(2 ^ 62)<=j/\j<2 ^ 62/\R (Itr 0 j.toNat) H
def aa8 (vs:List V)(H:Hp)(R:It->Hp->Prop):Prop:=∃ i j:Int,vs=[.int i,.int j]/\(-(2 ^ 62)<=i/\i<2 ^ 62 /\ -(2 ^ 62)<=j/\j<2 ^ 62)/\R (Itr i (j-i).toNat) H
def Zf (g:TG)(tb:TS)(D:Ka)(σ:St)(J:It)(H1:Hp):Prop:=∃ W:Nat->Nat->St->Hp->Prop,(∃ m,W 0 m σ H1)/\∀ i m σ H,W i m σ H ->
 (J.stop i H/\D.nx σ H)\/(J.go i H/\∃ N:St->Hp->Prop,(∀ σ' H',N σ' H'->∃ m',m'<m/\W (i+1) m' σ' H')/\∀ x H',J.yld i H x H'->g x σ H' fun σ2 H2=>tb { D with nx:=N,ct:=N,bk:=D.nx } σ2 H2)
def Kt (k:Nat)(js:List Nat)(g:TG)(tt:TT)(te:TE)(σ:St)(J:It)(H1:Hp)(Q:VK):Prop:=∀ p,H1 p=none ->
 ∃ W:Nat->Nat->Hp->Prop,(∃ m,W 0 m (upd H1 p (.lst [])))/\∀ i m H,W i m H ->
  (J.stop i H/\Q (.ref p) H)\/(J.go i H/\∃ N:Hp->Prop,(∀ H',N H'->∃ m',m'<m/\W (i+1) m' H') /\
   ∀ x H',J.yld i H x H'->g x (List.replicate k none++L6 σ js) H' fun σ2 H2=>tt σ2 H2 fun b H3=>
    if b=true then te σ2 H3 fun y H4=>∃ acc,H4 p=some (.lst acc)/\acc.length<sizeLine/\N (upd H4 p (.lst (acc++[y]))) else N H3)
def Y4 (p:Addr)(ps:List (V×V))(H:Hp)(Q:VK):Prop:=H p=some (.dK [])/\∃ kvs:List (Key×V),ps=kvs.map (fun kv=>(kV kv.1,kv.2))/\kvs.length<=15/\Q (.ref p) (upd H p (.dK (Dw [] kvs)))
section
variable {K:PySem.W.Frag}{σ:St}{H:Hp}{Q:VK}{D:Ka}{ta tb te:TE}{c:TT}{t u:TS}{x y v:V}{i j:Int}
theorem i_var {n:Nat}(h:σ[n]? = some (some v))(k:Q v H):ak7 n σ H Q:=⟨v,h,k⟩
theorem i_c (k:Q v H):tC v σ H Q:=k
theorem i_next (k:D.nx σ H):a88 D σ H:=k
theorem i_ret (k:te σ H D.rt):ao3 te D σ H:=k
theorem i_drop (k:te σ H fun _ H1=>D.nx σ H1):af3 te D σ H:=k
theorem i_asg {g:TG}(k:te σ H fun x H1=>g x σ H1 D.nx):a62 te g D σ H:=k
theorem i_gname {n:Nat}{R:St->Hp->Prop}(k:R (σ.set n (some v)) H):Ir n v σ H R:=k
theorem i_if (k:c σ H fun b H1=>if b=true then t D σ H1 else u D σ H1):am8 c t u D σ H:=k
theorem i_op {r:R2}(k:ta σ H fun x H1=>tb σ H1 fun y H2=>r x y H2 Q):tOp r ta tb σ H Q:=k
theorem i_un {r:V->Hp->VK->Prop}(k:ta σ H fun x H1=>r x H1 Q):tUn r ta σ H Q:=k
theorem i_rU {g:Int->V}(k:Q (g i) H):rU g (.int i) H Q:=⟨i,rfl,k⟩
theorem i_rI0 {g:Int->Int->V}(k:Q (g i j) H):rI0 g (.int i) (.int j) H Q:=⟨i,j,rfl,rfl,k⟩
theorem i_rI {C:Int->Int->Prop}{g:Int->Int->V}(h:C i j)(k:Q (g i j) H):rI C g (.int i) (.int j) H Q:=⟨i,j,rfl,rfl,h,k⟩
theorem i_addI (k:Q (.int (i+j)) H):Rj K (.int i) (.int j) H Q:=.inl ⟨i,j,rfl,rfl,k⟩
theorem i_addS {a b:Str}(h:a.length+b.length<=sizeLine)(k:Q (.str (a++b)) H):Rj K (.str a) (.str b) H Q:=.inr (.inl ⟨a,b,rfl,rfl,h,k⟩)
theorem Jg {a b:Addr}{xs ys:List V}(h1:H a=some (.lst xs))(h2:H b=some (.lst ys))(h:xs.length+ys.length<=sizeLine)(k:∀ p H',H p=none->Same H H'->H' p=some (.lst (xs++ys))->Q (.ref p) H'):Rj K (.ref a) (.ref b) H Q:=
 .inr (.inr (.inl ⟨a,b,xs,ys,rfl,rfl,h1,h2,h,fun p hp=>k p _ hp (Same.upd hp) A9⟩))
theorem ag8 (h:CMul i j)(k:Q (.int (i*j)) H):Xr (.int i) (.int j) H Q:=.inl ⟨i,j,rfl,rfl,h,k⟩
theorem ag0 {a:Addr}{xs:List V}(h1:H a=some (.lst xs))(h2:-(2 ^ 63)<=i/\i<2 ^ 63)(h3:xs.length*i.toNat<=sizeLine)(k:∀ p H',H p=none->Same H H'->H' p=some (.lst (List.replicate i.toNat xs).flatten)->Q (.ref p) H'):Xr (.ref a) (.int i) H Q:=
 .inr ⟨a,i,xs,rfl,rfl,h1,h2.1,h2.2,h3,fun p hp=>k p _ hp (Same.upd hp) A9⟩
theorem i_eqS (h:ai2 x y=true)(k:Q (.bl (decide (x=y))) H):ai1 K x y H Q:=.inl ⟨h,k⟩
theorem i_neS (h:ai2 x y=true)(k:Q (.bl (!decide (x=y))) H):al0 K x y H Q:=.inl ⟨h,k⟩
theorem ak6 {dx dy:PyData}(h1:Is K H dx x)(h2:Is K H dy y)(h3:SeqAt.shaped dx=true)(h4:SeqAt.shaped dy=true)(k:Q (.bl (PyData.eqv dx dy)) H):ai1 K x y H Q:=.inr ⟨dx,dy,h1,h2,h3,h4,k⟩
theorem i_true {R:Bool->Hp->Prop}(k:R true H):a32 σ H R:=k
theorem i_tTest {R:Bool->Hp->Prop}(k:te σ H fun x H'=>∃ b,x = .bl b/\R b H'):ab4 te σ H R:=k
theorem i_tB {R:Bool->Hp->Prop}(k:te σ H fun x H'=>∃ b,x = .bl b/\R b H'):tB te σ H R:=k
theorem i_bl {b:Bool}{R:Bool->Prop}(k:R b):∃ c,V.bl b = .bl c/\R c:=⟨b,rfl,k⟩
theorem i_not {R:Bool->Hp->Prop}(k:c σ H fun b H1=>R (!b) H1):an3 c σ H R:=k
theorem i_and {c':TT}{R:Bool->Hp->Prop}(k:c σ H fun b H1=>if b=true then c' σ H1 R else R false H1):an0 c c' σ H R:=k
theorem Ib {a:Addr}{xs:List V}(h:H a=some (.lst xs))(e:atI xs i=some v)(k:Q v H):Jx K (.ref a) (.int i) H Q:=.inl (.inl ⟨a,xs,i,v,rfl,rfl,SqL.of h,e,k⟩)
theorem a31 {z:Str}{s:Nat}(h:z.length<=sizeLine)(e:atI z.cps.toList i=some s)(k:Q (.str ⟨#[s]⟩) H):Jx K (.str z) (.int i) H Q:=.inl (.inr (.inr ⟨z,i,s,rfl,rfl,h,e,k⟩))
theorem i_ixD {a:Addr}{kvs:List (Key×V)}{z:Str}(h:H a=some (.dK kvs))(e:Cg kvs (Sum.inr z:Key)=some v)(k:Q v H):Jx K (.ref a) (.str z) H Q:=.inr ⟨a,v,rfl,by rw[<- e];exact DGet.k (k:=Sum.inr z) h,k⟩
theorem i_lenL {a:Addr}{xs:List V}(h:H a=some (.lst xs))(k:Q (.int xs.length) H):Ro K [.ref a] H Q:=.inl ⟨.ref a,_,rfl,.inl ⟨xs,SqL.of h,rfl⟩,k⟩
theorem a04 {a:Addr}{xs:List V}(h:SqL K H a xs)(k:∀ p H',H p=none->Same H H'->H' p=some (.lst xs)->Q (.ref p) H'):Pj K [.ref a] H Q:=⟨a,xs,rfl,.inl h,fun p hp=>k p _ hp (Same.upd hp) A9⟩
theorem Ii {a:Addr}{xs:List V}(h:SqL K H a xs)(k:∀ p H',H p=none->Same H H'->H' p=some (.tup xs)->Q (.ref p) H'):Lu K [.ref a] H Q:=⟨a,xs,rfl,.inl ⟨h,fun p hp=>k p _ hp (Same.upd hp) A9⟩⟩
theorem i_intB {b:Bool}(k:Q (.int (if b then 1 else 0)) H):ae3 [.bl b] H Q:=.inr ⟨b,rfl,k⟩
theorem i_sl {r:V->Option Int->Option Int->Hp->VK->Prop}{tl th:TO}(k:te σ H fun x H1=>tl σ H1 fun l H2=>th σ H2 fun u H3=>r x l u H3 Q):tSl r te tl th σ H Q:=k
theorem i_noPart {R:Option Int->Hp->Prop}(k:R none H):T7 σ H R:=k
theorem i_part {R:Option Int->Hp->Prop}(k:te σ H fun x H1=>∃ i,x = .int i/\R (some i) H1):ah5 te σ H R:=k
theorem i_int {R:Int->Prop}(k:R i):∃ j,V.int i = .int j/\R j:=⟨i,rfl,k⟩
theorem i_slS {z:Str}{lo hi:Option Int}(h:z.length<=sizeLine)(k:Q (.str (Txt.slice z lo hi)) H):a57 K (.str z) lo hi H Q:=.inr (.inr (.inl ⟨z,rfl,h,k⟩))
theorem Gj {a:Addr}{xs:List V}{lo hi:Option Int}(h:SqL K H a xs)(k:∀ p H',H p=none->Same H H'->H' p=some (.lst (K8 xs lo hi))->Q (.ref p) H'):a57 K (.ref a) lo hi H Q:=.inl ⟨a,xs,rfl,h,fun p hp=>k p _ hp (Same.upd hp) A9⟩
theorem i_bm {T:String}{r:V->List V->Hp->VK->Prop}{ts:TA}(k:te σ H fun x H1=>tyV K T x H1/\ts σ H1 fun xs H2=>r x xs H2 Q):tBM K T r te ts σ H Q:=k
theorem i_bm0 {T:String}{r:V->List V->Hp->VK->Prop}(k:te σ H fun x H1=>tyV K T x H1/\r x [] H1 Q):aj0 K T r te σ H Q:=k
theorem i_call {sp:Sp}{E:XK}{ts:TA}(k:ts σ H fun vs H1=>sp (vs++[]) H1 Q E):a40 sp [] E ts σ H Q:=k
theorem i_cb {r:List V->Hp->VK->Prop}{ts:TA}(k:ts σ H fun vs H1=>r vs H1 Q):tCB r ts σ H Q:=k
theorem i_cons {tr:TA}{R:List V->Hp->Prop}(k:ta σ H fun x H1=>tr σ H1 fun xs H2=>R (x :: xs) H2):X7 ta tr σ H R:=k
theorem i_nil {R:List V->Hp->Prop}(k:R [] H):ah8 σ H R:=k
theorem i_tup {ts:TA}(k:ts σ H fun xs H1=>ae9 xs H1 Q):am4 ts σ H Q:=k
theorem i_lst {ts:TA}(k:ts σ H fun xs H1=>a66 xs H1 Q):an4 ts σ H Q:=k
theorem Bn {xs:List V}(h:xs.length<=sizeLine)(k:∀ p H',H p=none->Same H H'->H' p=some (.tup xs)->Q (.ref p) H'):ae9 xs H Q:=⟨h,fun p hp=>k p _ hp (Same.upd hp) A9⟩
theorem Cb {xs:List V}(h:xs.length<=sizeLine)(k:∀ p H',H p=none->Same H H'->H' p=some (.lst xs)->Q (.ref p) H'):a66 xs H Q:=⟨h,fun p hp=>k p _ hp (Same.upd hp) A9⟩
theorem Vd (k:∀ p H',H p=none->Same H H'->H' p=some (.dK [])->Q (.ref p) H'):Yu σ H Q:=fun p hp=>k p _ hp (Same.upd hp) A9
theorem i_put {td ty tv:TE}(k:tv σ H fun v H1=>td σ H1 fun x H2=>ty σ H2 fun y H3=>∃ a H4,x = .ref a/\DPut H3 a y v H4/\D.nx σ H4):a83 td ty tv D σ H:=k
theorem Gv {a:Addr}{kvs:List (Key×V)}{z:Str}{R:Hp->Prop}(h:H a=some (.dK kvs))(hl:kvs.length<1000)(k:∀ H',ExtBut a H H'->H' a=some (.dK (Dv kvs (Sum.inr z) v))->R H'):∃ b H4,V.ref a = .ref b/\DPut H b (.str z) v H4/\R H4:=
 ⟨a,_,rfl,DPut.k (k:=Sum.inr z) h (W2 (Nat.le_of_lt hl)),k _ ExtBut.upd A9⟩
theorem i_for {wi:TI}{g:TG}{tb:TS}(k:wi σ H fun J H1=>Zf g tb D σ J H1):am1 wi g tb D σ H:=k
theorem i_comp {m:Nat}{js:List Nat}{wi:TI}{g:TG}{tt:TT}(k:wi σ H fun J H1=>Kt m js g tt te σ J H1 Q):Zc m js wi g tt te σ H Q:=k
theorem G9 {a:Addr}{xs:List V}{R:It->Hp->Prop}(h:SqL K H a xs)(k:R (Itl K a) H):Du K (.ref a) H R:=.inl ⟨a,rfl,⟨xs,h⟩,k⟩
theorem Oh {a:Addr}{xs:List V}{R:It->Hp->Prop}(h:SqT K H a xs)(k:R (Itt K a) H):Du K (.ref a) H R:=.inr (.inl ⟨a,rfl,⟨xs,h⟩,k⟩)
theorem ai6 {a:Addr}{kvs:List (Key×V)}{R:It->Hp->Prop}(h:H a=some (.dK kvs))(k:∀ o,R (Itd a o kvs) (upd H a (.frz o (.dK kvs)))):Du K (.ref a) H R:=.inr (.inr (.inr ⟨a,kvs,rfl,.inl ⟨h,k⟩⟩))
theorem ak5 {a:Addr}{kvs:List (Key×V)}{o:Obj}{R:It->Hp->Prop}(h:H a=some (.frz o (.dK kvs)))(k:R (Itd a o kvs) H):Du K (.ref a) H R:=.inr (.inr (.inr ⟨a,kvs,rfl,.inr ⟨o,h,k⟩⟩))
theorem i_rng1 {ts:TA}{R:It->Hp->Prop}(k:ts σ H fun vs H1=>ad0 vs H1 R):ad8 ts σ H R:=k
theorem Gc {R:It->Hp->Prop}(h:-(2 ^ 62)<=i/\i<2 ^ 62)(k:R (Itr 0 i.toNat) H):ad0 [V.int i] H R:=⟨i,rfl,h.1,h.2,k⟩
theorem i_rng2 {ts:TA}{R:It->Hp->Prop}(k:ts σ H fun vs H1=>aa8 vs H1 R):ah0 ts σ H R:=k
theorem a97 {R:It->Hp->Prop}(h:(-(2 ^ 62)<=i/\i<2 ^ 62) /\ -(2 ^ 62)<=j/\j<2 ^ 62)(k:R (Itr i (j-i).toNat) H):aa8 [V.int i,V.int j] H R:=⟨i,j,rfl,⟨h.1.1,h.1.2,h.2.1,h.2.2⟩,k⟩
theorem i_iany {R:It->Hp->Prop}(k:te σ H fun x H1=>Du K x H1 R):aj9 K te σ H R:=k
theorem Tv {trs:List (TE×TE)}(k:∀ p H1,H p=none->Same H H1->H1 p=some (.dK [])->Jf trs σ H1 fun ps H2=>Y4 p ps H2 Q):a70 trs σ H Q:=fun p hp=>k p _ hp (Same.upd hp) A9
theorem i_pair {tk tv:TE}{r:List (TE×TE)}{R:List (V×V)->Hp->Prop}(k:tk σ H fun x H1=>tv σ H1 fun y H2=>Jf r σ H2 fun ps H3=>R ((x,y) :: ps) H3):Jf ((tk,tv) :: r) σ H R:=k
theorem Pa {p:Addr}{ps:List (V×V)}(kvs:List (Key×V))(h:H p=some (.dK []))(e:ps=kvs.map (fun kv=>(kV kv.1,kv.2)))(hl:kvs.length<=15)(k:∀ H',ExtBut p H H'->H' p=some (.dK (Dw [] kvs))->Q (.ref p) H'):Y4 p ps H Q:=⟨h,kvs,e,hl,k _ ExtBut.upd A9⟩
theorem i_pair0 {R:List (V×V)->Hp->Prop}(k:R [] H):Jf [] σ H R:=k
end
theorem Nt {c A B:Prop}[Decidable c](h1:c->A)(h2:¬ c->B):if decide c=true then A else B:=by
 by_cases h:c
 . rw[if_pos (decide_eq_true h)];exact h1 h
 rw[if_neg (by rw[decide_eq_false h];exact Bool.false_ne_true)];exact h2 h
theorem al8 {c A B:Prop}[Decidable c](h1:¬ c->A)(h2:c->B):if(!decide c)=true then A else B:=by
 by_cases h:c
 . rw[decide_eq_true h,if_neg (by decide)];exact h2 h
 rw[decide_eq_false h,if_pos (by decide)];exact h1 h
theorem af0 {b:Bool}{A B:Prop}(h1:b=true->A)(h2:b=false->B):if b=true then A else B:=by
 cases b
 . rw[if_neg Bool.false_ne_true];exact h2 rfl
 rw[if_pos rfl];exact h1 rfl
theorem Rt {b:Bool}{A B:Prop}(h1:b=false->A)(h2:b=true->B):if(!b)=true then A else B:=by
 cases b
 . exact h1 rfl
 exact h2 rfl
theorem iteNT {A B:Prop}(h:B):if(!true)=true then A else B:=h
theorem Ac {n:Nat}(h:n<=1000000):n<=sizeLine:=by rw[sizeLine_eq];omega
def Fe (J:It)(xs:List V)(G:Hp->Prop):Prop:=
 ∀ i H,G H->(i<xs.length->J.go i H)/\(xs.length<=i->J.stop i H)/\∀ x H',i<xs.length->J.yld i H x H'->H'=H/\xs[i]? = some x
theorem Av {K:PySem.W.Frag}{a:Addr}{xs:List V}:Fe (Itl K a) xs fun H=>SqL K H a xs:=by
 intro i H g
 refine⟨fun h=>⟨xs,xs[i],g,List.getElem?_eq_getElem h⟩,fun h=>⟨xs,g,h⟩,fun x H' _ h=>⟨h.1,h.2 xs g⟩⟩
theorem Et {K:PySem.W.Frag}{a:Addr}{xs:List V}:Fe (Itt K a) xs fun H=>SqT K H a xs:=by
 intro i H g
 refine⟨fun h=>⟨xs,xs[i],g,List.getElem?_eq_getElem h⟩,fun h=>⟨xs,g,h⟩,fun x H' _ h=>⟨h.1,h.2 xs g⟩⟩
theorem W5 {a:Addr}{o:Obj}{kvs:List (Key×V)}:Fe (Itd a o kvs) (kvs.map fun kv=>kV kv.1) fun H=>H a=some (.frz o (.dK kvs)):=by
 intro i H g
 rw[List.length_map]
 refine⟨fun h=>⟨g,h⟩,fun h=>⟨g,h⟩,fun x H' _ h=>?_⟩
 obtain⟨e,kv,h1,h2⟩:=h
 exact⟨e,by rw[List.getElem?_map,h1,h2];rfl⟩
theorem Bf {lo:Int}{n:Nat}:Fe (Itr lo n) ((List.range n).map fun(i:Nat)=>V.int (lo+(i:Int))) fun _=>True:=by
 intro i H _
 refine⟨fun h=>?_,fun h=>?_,fun x H' hi h=>?_⟩
 . show i<n
   simpa using h
 . show n<=i
   simpa using h
 obtain⟨e,hx⟩:=h
 refine⟨e,?_⟩
 have hi':i<n:=by simpa using hi
 rw[List.getElem?_map,List.getElem?_range hi',hx]
 rfl
theorem Wy {J:It}{xs:List V}{G:Hp->Prop}{g:TG}{tb:TS}{D:Ka}{σ:St}{H:Hp}(hw:Fe J xs G)(Pv:Nat->St->Hp->Prop)(h0:Pv 0 σ H)(hG:∀ i σ H,Pv i σ H->G H)
  (hs:∀ i x σ H,xs[i]? = some x->Pv i σ H->g x σ H fun σ2 H2=>tb { D with nx:=Pv (i+1),ct:=Pv (i+1),bk:=D.nx } σ2 H2) (hd:∀ σ H,Pv xs.length σ H->D.nx σ H) :
  ∃ W:Nat->Nat->St->Hp->Prop,(∃ m,W 0 m σ H)/\∀ i m σ H,W i m σ H ->
   (J.stop i H/\D.nx σ H)\/(J.go i H/\∃ N:St->Hp->Prop,(∀ σ' H',N σ' H'->∃ m',m'<m/\W (i+1) m' σ' H')/\∀ x H',J.yld i H x H'->g x σ H' fun σ2 H2=>tb { D with nx:=N,ct:=N,bk:=D.nx } σ2 H2):=by
 refine⟨fun i m σ H=>m=xs.length-i/\i<=xs.length/\Pv i σ H,⟨xs.length,by simp,Nat.zero_le _,h0⟩,?_⟩
 rintro i m σ H ⟨rfl,hi,p⟩
 obtain⟨w1,w2,w3⟩:=hw i H (hG i σ H p)
 by_cases hlt:i<xs.length
 . refine .inr ⟨w1 hlt,Pv (i+1),fun σ' H' p'=>⟨xs.length-(i+1),by omega,rfl,hlt,p'⟩,fun x H' y=>?_⟩
   obtain⟨e,hx⟩:=w3 x H' hlt y
   subst e
   exact hs i x σ _ hx p
 have e:i=xs.length:=by omega
 subst e
 exact .inl ⟨w2 (Nat.le_refl _),hd σ H p⟩
def CN (p:Addr)(n:Nat)(Pv:Nat->List V->Hp->Prop)(i:Nat):Hp->Prop:=fun H'=>i+1<=n/\∃ acc,H' p=some (.lst acc)/\acc.length<=i+1/\Pv (i+1) acc H'
theorem a28 {p:Addr}{n:Nat}{Pv:Nat->List V->Hp->Prop}{i:Nat}{H:Hp}{acc:List V}{y:V}(hn:n<=1000000)(hi:i<n)(hl:acc.length<=i)(e:H p=some (.lst acc))(k:∀ H',ExtBut p H H'->H' p=some (.lst (acc++[y]))->Pv (i+1) (acc++[y]) H') :
  ∃ acc,H p=some (.lst acc)/\acc.length<sizeLine/\CN p n Pv i (upd H p (.lst (acc++[y]))):=
 ⟨acc,e,by rw[sizeLine_eq];omega,hi,acc++[y],A9,by rw[List.length_append,List.length_singleton];omega,k _ ExtBut.upd A9⟩
theorem Og {p:Addr}{n:Nat}{Pv:Nat->List V->Hp->Prop}{i:Nat}{H:Hp}{acc:List V}(hi:i<n)(hl:acc.length<=i)(e:H p=some (.lst acc))(k:Pv (i+1) acc H):CN p n Pv i H:=⟨hi,acc,e,by omega,k⟩
theorem Wd {J:It}{xs:List V}{G:Hp->Prop}{g:TG}{tt:TT}{te:TE}{σ:St}{H:Hp}{Q:VK}{p:Addr}{k:Nat}{js:List Nat}(hw:Fe J xs G)(hp:H p=none)(Pv:Nat->List V->Hp->Prop)
  (h0:∀ H',Same H H'->H' p=some (.lst [])->Pv 0 [] H') (hG:∀ i acc H,Pv i acc H->G H)
  (hs:∀ i x acc H,xs[i]? = some x->i<xs.length->acc.length<=i->H p=some (.lst acc)->Pv i acc H->g x (List.replicate k none++L6 σ js) H fun σ2 H2=>tt σ2 H2 fun b H3=>
   if b=true then te σ2 H3 fun y H4=>∃ acc,H4 p=some (.lst acc)/\acc.length<sizeLine/\CN p xs.length Pv i (upd H4 p (.lst (acc++[y]))) else CN p xs.length Pv i H3)
  (hd:∀ acc H,H p=some (.lst acc)->acc.length<=xs.length->Pv xs.length acc H->Q (.ref p) H) :
  ∃ W:Nat->Nat->Hp->Prop,(∃ m,W 0 m (upd H p (.lst [])))/\∀ i m H,W i m H ->
   (J.stop i H/\Q (.ref p) H)\/(J.go i H/\∃ N:Hp->Prop,(∀ H',N H'->∃ m',m'<m/\W (i+1) m' H') /\
    ∀ x H',J.yld i H x H'->g x (List.replicate k none++L6 σ js) H' fun σ2 H2=>tt σ2 H2 fun b H3=>
     if b=true then te σ2 H3 fun y H4=>∃ acc,H4 p=some (.lst acc)/\acc.length<sizeLine/\N (upd H4 p (.lst (acc++[y]))) else N H3):=by
 refine⟨fun i m H=>m=xs.length-i/\i<=xs.length/\∃ acc,H p=some (.lst acc)/\acc.length<=i/\Pv i acc H,⟨xs.length,by simp,Nat.zero_le _,[],A9,Nat.le_refl _,h0 _ (Same.upd hp) A9⟩,?_⟩
 rintro i m H ⟨rfl,hi,acc,hacc,hl,q⟩
 obtain⟨w1,w2,w3⟩:=hw i H (hG i acc H q)
 by_cases hlt:i<xs.length
 . refine .inr ⟨w1 hlt,CN p xs.length Pv i,fun H' ⟨h1,h2⟩=>⟨xs.length-(i+1),by omega,rfl,h1,h2⟩,fun x H' y=>?_⟩
   obtain⟨e,hx⟩:=w3 x H' hlt y
   subst e
   exact hs i x acc _ hx hlt hl hacc q
 have e:i=xs.length:=by omega
 subst e
 exact .inl ⟨w2 (Nat.le_refl _),hd acc H hacc hl q⟩
def a80 (p:Addr)(N:Hp->Prop):VK:=fun y H4=>∃ acc,H4 p=some (.lst acc)/\acc.length<sizeLine/\N (upd H4 p (.lst (acc++[y])))
theorem Gg {J:It}{xs:List V}{G:Hp->Prop}{g:TG}{tt:TT}{te:TE}{σ:St}{H:Hp}{Q:VK}{k:Nat}{js:List Nat}(hw:Fe J xs G)(Pv:Addr->Nat->List V->Hp->Prop)
  (h0:∀ p H',H p=none->Same H H'->H' p=some (.lst [])->Pv p 0 [] H') (hG:∀ p i acc H,Pv p i acc H->G H)
  (hs:∀ p i x acc H1,H p=none->xs[i]? = some x->i<xs.length->acc.length<=i->H1 p=some (.lst acc)->Pv p i acc H1->g x (List.replicate k none++L6 σ js) H1 fun σ2 H2=>tt σ2 H2 fun b H3=>
   if b=true then te σ2 H3 (a80 p (CN p xs.length (Pv p) i)) else CN p xs.length (Pv p) i H3)
  (hd:∀ p acc H1,H p=none->H1 p=some (.lst acc)->acc.length<=xs.length->Pv p xs.length acc H1->Q (.ref p) H1):Kt k js g tt te σ J H Q:=fun p hp=>
 Wd hw hp (Pv p) (fun H' e h=>h0 p H' hp e h) (hG p) (fun i x acc H1 h1 h2 h3 h4 h5=>hs p i x acc H1 hp h1 h2 h3 h4 h5) fun acc H1 h1 h2 h3=>hd p acc H1 hp h1 h2 h3
theorem Je {p:Addr}{n:Nat}{Pv:Nat->List V->Hp->Prop}{i:Nat}{H:Hp}{acc:List V}{y:V}(hn:n<=1000000)(hi:i<n)(hl:acc.length<=i)(e:H p=some (.lst acc))(k:∀ H',ExtBut p H H'->H' p=some (.lst (acc++[y]))->Pv (i+1) (acc++[y]) H') :
  a80 p (CN p n Pv i) y H:=a28 hn hi hl e k
theorem Vp {J:It}{xs:List V}{G:Hp->Prop}{g:TG}{tt:TT}{te:TE}{σ:St}{H:Hp}{Q:VK}{k:Nat}{js:List Nat}(hw:Fe J xs G)(t:V->Bool)(f:V->V)(hz:xs.length<=1000000)(hG:∀ H',Same H H'->G H')
  (hs:∀(i:Nat) x H1 (R:VK) (R':Hp->Prop),xs[i]? = some x->Same H H1->(t x=true->R (f x) H1)->(t x=false->R' H1)->g x (List.replicate k none++L6 σ js) H1 fun σ2 H2=>tt σ2 H2 fun b H3=>if b=true then te σ2 H3 R else R' H3)
  (hd:∀ p H',H p=none->Same H H'->H' p=some (.lst ((xs.filter t).map f))->Q (.ref p) H'):Kt k js g tt te σ J H Q:=by
 refine Gg hw (fun p i acc H1=>Same H H1/\acc=((xs.take i).filter t).map f) (fun p H' hp e h=>⟨e,by simp⟩) (fun p i acc H1 h=>hG H1 h.1) (fun p i x acc H1 hp hx hi hl ha ⟨e,hacc⟩=>?_) fun p acc H1 hp ha hl ⟨e,hacc⟩=>?_
 . have ht:xs.take (i+1)=xs.take i++[x]:=by rw[List.take_add_one,hx];rfl
   refine hs i x H1 _ _ hx e (fun h=>?_) fun h=>?_
   . refine Je hz hi hl ha fun H' e' h'=>⟨fun b o hb=>e' b o (ne_of_none hb hp) (e b o hb),?_⟩
     rw[ht,List.filter_append,List.map_append,hacc]
     simp[h]
   refine Og hi hl ha ⟨e,?_⟩
   rw[ht,List.filter_append,List.map_append,hacc]
   simp[h]
 refine hd p H1 hp e ?_
 rw[ha,hacc,List.take_length]
theorem C4 {α:Type}(xs:List α):xs.filter (fun _=>true)=xs:=by simp
theorem Kw {J:It}{xs:List V}{G:Hp->Prop}{g:TG}{te:TE}{σ:St}{H:Hp}{Q:VK}{k:Nat}{js:List Nat}(hw:Fe J xs G)(f:V->V)(hz:xs.length<=1000000)(hG:∀ H',Same H H'->G H')
  (hs:∀(i:Nat) x H1 (R:VK),xs[i]? = some x->Same H H1->R (f x) H1->g x (List.replicate k none++L6 σ js) H1 fun σ2 H2=>te σ2 H2 R)
  (hd:∀ p H',H p=none->Same H H'->H' p=some (.lst (xs.map f))->Q (.ref p) H'):Kt k js g a32 te σ J H Q:=
 Vp hw (fun _=>true) f hz hG (fun i x H1 R R' hx e h _=>by
  have:=hs i x H1 R hx e (h rfl)
  show g x _ H1 fun σ2 H2=>if true=true then te σ2 H2 R else R' H2
  simpa using this) fun p H' hp e h=>hd p H' hp e (by rw[h,C4])
theorem Ck {J:It}{xs:List V}{G:Hp->Prop}{g:TG}{tb:TS}{D:Ka}{σ:St}{H:Hp}(hw:Fe J xs G)(Pv:Nat->St->Hp->Prop)(h0:Pv 0 σ H)(hG:∀ i σ H,Pv i σ H->G H)
  (hs:∀ i x σ H,xs[i]? = some x->i<xs.length->Pv i σ H->g x σ H fun σ2 H2=>tb { D with nx:=Pv (i+1),ct:=Pv (i+1),bk:=D.nx } σ2 H2) (hd:∀ σ H,Pv xs.length σ H->D.nx σ H):Zf g tb D σ J H:=
 Wy hw Pv h0 hG (fun i x σ H hx=>hs i x σ H hx (List.getElem?_eq_some_iff.mp hx).1) hd
section
variable {X:Cx}{K:PySem.W.Frag}
theorem Ad (hK:X.K=K:=by ac_nf):OpR X (binaryOp .Add) (Rj K):=hK ▸ Z4
theorem Fs (hq:QA X.A)(hK:X.K=K:=by ac_nf):OpR X (compareOp .Eq) (ai1 K):=hK ▸ a63 hq
theorem ac7 (hq:QA X.A)(hK:X.K=K:=by ac_nf):OpR X (compareOp .NotEq) (al0 K):=hK ▸ a79 hq
theorem Nn (hq:QA X.A)(hK:X.K=K:=by ac_nf):OpR X (compareOp .In) (Wq K false):=hK ▸ a78 hq
theorem Fx (hq:QA X.A)(hK:X.K=K:=by ac_nf):OpR X (compareOp .NotIn) (Wq K true):=hK ▸ Tq hq
theorem A6 (hu:X.A.units+1<cLine)(hK:X.K=K:=by ac_nf):IxR X (Jx K):=hK ▸ ac8 hu
theorem Le (hK:X.K=K:=by ac_nf):SlR X (a57 K):=hK ▸ sl_A
theorem Bk (hK:X.K=K:=by ac_nf):CallR X (.builtin "len") (Ro K):=hK ▸ Sv
theorem Hg (hK:X.K=K:=by ac_nf):CallR X (.type "list") (Pj K):=hK ▸ Rx
theorem Cw (hK:X.K=K:=by ac_nf):CallR X (.type "tuple") (Lu K):=hK ▸ Pf
theorem Ak {tg:Expr}(hu:X.A.units+1<cLine){l:Expr}{tl:TE}(hl:PE X l tl)(hK:X.K=K:=by ac_nf):PI X tg l (aj9 K tl):=hK ▸ af5 hu hl
theorem J5 {es:List Expr}{k:Nat}{t:TGs}{n:Nat}{pos:Pos}(hc:X.calm=true)(h:PGs X es t)(hK:X.K=K:=by ac_nf)
  (hn:(assignEach es X.env).length=n:=by ac_nf) (hst:(assignEach es X.env).findIdx? (·.1)=none:=by ac_nf):PG X (.Tuple es k pos) (ab6 K n t):=hK ▸ a82 hc h hn hst
variable {o e:Expr}{es:List Expr}{to:TE}{t:TA}{name:Str}{apos cpos:Pos}{T id:String}{r:V->List V->Hp->VK->Prop}
theorem a33 (pa:PlainAttrs T)(slot:Slot T name id)(hty:typeOf (.builtin id)=pure (.type "method_descriptor"))(hm:MtR X id r)(ho:PE X o to)(hK:X.K=K:=by ac_nf)
  (hbase:attributeBase o name X.env (eval o X.env)=eval o X.env:=by ac_nf) (hline:(apos.endLine==cpos.line)=true:=by ac_nf):PE X (.Call (.Attribute o name apos) [] [] cpos) (aj0 K T r to):=hK ▸ ae5 pa slot hty hm ho hbase hline
theorem Gd (pa:PlainAttrs T)(slot:Slot T name id)(hty:typeOf (.builtin id)=pure (.type "method_descriptor"))(hm:MtR X id r)(ho:PE X o to)(ha:PA X (e :: es) t)(hK:X.K=K:=by ac_nf)
  (hbase:attributeBase o name X.env (eval o X.env)=eval o X.env:=by ac_nf)
  (hfew:((backTo cpos (starEach (e :: es) X.env)).all (fun x=>!x.1)&&(backToKw cpos (keywordEach [] X.env)).all (fun x=>x.1.isSome)
   && decide ((e :: es).length+([]:List Keyword).length+(if([]:List Keyword).isEmpty then 0 else 1)<30))=true:=by ac_nf)
  (hline:(apos.endLine==cpos.line)=true:=by ac_nf) (hs:starEach (e :: es) X.env=(false,eval e X.env) :: starEach es X.env:=by ac_nf) (hplain:(backTo cpos (starEach es X.env)).any (·.1)=false:=by ac_nf) :
  PE X (.Call (.Attribute o name apos) (e :: es) [] cpos) (tBM K T r to t):=hK ▸ ai5 pa slot hty hm ho ha hbase hfew hline hs hplain
end
def Fz (H H':Hp):Prop:=∀ a xs,Rd H a (.tup xs)->Rd H' a (.tup xs)
theorem Fz.refl (H:Hp):Fz H H:=fun _ _ h=>h
theorem Fz.trans {H H1 H2:Hp}(a:Fz H H1)(b:Fz H1 H2):Fz H H2:=fun c xs h=>b c xs (a c xs h)
theorem Same.fz {H H':Hp}(e:Same H H'):Fz H H':=fun a xs h=>by
 rcases h with h | ⟨o,h⟩
 . exact .inl (e _ _ h)
 exact .inr ⟨o,e _ _ h⟩
theorem Qz {p:Addr}{H H':Hp}(e:ExtBut p H H')(hp:∀ xs,¬ Rd H p (.tup xs)):Fz H H':=fun a xs h=>by
 have n:a≠p:=fun q=>hp xs (q ▸ h)
 rcases h with h | ⟨o,h⟩
 . exact .inl (e _ _ n h)
 exact .inr ⟨o,e _ _ n h⟩
theorem ExtBut.fzL {p:Addr}{H H':Hp}{l:List V}(e:ExtBut p H H')(hp:H p=some (.lst l)):Fz H H':=Qz e fun xs h=>by
 rcases h with h | ⟨o,h⟩
 . rw[hp] at h;cases h
 rw[hp] at h;cases h
theorem ExtBut.fzD {p:Addr}{H H':Hp}{l:List (Key×V)}(e:ExtBut p H H')(hp:H p=some (.dK l)):Fz H H':=Qz e fun xs h=>by
 rcases h with h | ⟨o,h⟩
 . rw[hp] at h;cases h
 rw[hp] at h;cases h
theorem Fz.seq {K:PySem.W.Frag}{H H':Hp}(e:Fz H H'){a:Addr}{xs:List V}(h:SqT K H a xs):SqT K H' a xs:=by
 rcases h with h | h
 . exact .inl (e _ _ h)
 exact .inr h
mutual
def frz:PyData->Bool
 | .tuple ds=>Jl ds
 | .list _=>false
 | .dict _=>false
 | _=>true
def Jl:List PyData->Bool
 | []=>true
 | d :: ds=>frz d&&Jl ds
end
mutual
theorem Is.fz {K:PySem.W.Frag}{H H':Hp}(e:Fz H H'):∀(d:PyData) (v:V),frz d=true->Is K H d v->Is K H' d v
 | .none,_,_,h=>by simp only[Is] at h ⊢;exact h
 | .bool _,_,_,h=>by simp only[Is] at h ⊢;exact h
 | .int _,_,_,h=>by simp only[Is] at h ⊢;exact h
 | .str _,_,_,h=>by simp only[Is] at h ⊢;exact h
 | .list ds,v,hf,_=>by simp[frz] at hf
 | .tuple ds,v,hf,h=>by
   simp only[Is] at h ⊢
   obtain⟨a,xs,e1,e2,e3⟩:=h
   exact⟨a,xs,e1,e.seq e2,IsL.fz e ds xs (by simpa only[frz] using hf) e3⟩
 | .dict _,_,_,h=>by simp only[Is] at h
theorem IsL.fz {K:PySem.W.Frag}{H H':Hp}(e:Fz H H'):∀(ds:List PyData) (vs:List V),Jl ds=true->IsL K H ds vs->IsL K H' ds vs
 | [],_,_,h=>by simp only[IsL] at h ⊢;exact h
 | d :: ds,vs,hf,h=>by
   simp only[IsL] at h ⊢
   simp only[Jl,Bool.and_eq_true] at hf
   obtain⟨v,r,e1,e2,e3⟩:=h
   exact⟨v,r,e1,Is.fz e d v hf.1 e2,IsL.fz e ds r hf.2 e3⟩
end
section
variable {K:PySem.W.Frag}{H H':Hp}
theorem IsL.length:∀ {ds:List PyData} {vs:List V},IsL K H ds vs->ds.length=vs.length
 | [],_,h=>by simp only[IsL] at h;subst h;rfl
 | d :: ds,vs,h=>by
   simp only[IsL] at h
   obtain⟨v,r,rfl,_,e3⟩:=h
   simp only[List.length_cons,IsL.length e3]
theorem IsL.get:∀ {ds:List PyData} {vs:List V} {i:Nat} {x:V},IsL K H ds vs->vs[i]? = some x->∃ d,ds[i]? = some d/\Is K H d x
 | [],_,_,_,h,e=>by simp only[IsL] at h;subst h;simp at e
 | d :: ds,vs,i,x,h,e=>by
   simp only[IsL] at h
   obtain⟨v,r,rfl,e2,e3⟩:=h
   cases i with
   | zero=>simp at e;subst e;exact⟨d,rfl,e2⟩
   | succ i=>
     obtain⟨d',h1,h2⟩:=IsL.get (i:=i) e3 (by simpa using e)
     exact⟨d',by simpa using h1,h2⟩
theorem IsL.at:∀ {ds:List PyData} {vs:List V} {i:Nat} {d:PyData},IsL K H ds vs->ds[i]? = some d->∃ x,vs[i]? = some x/\Is K H d x
 | [],_,_,_,h,e=>by simp at e
 | d :: ds,vs,i,d',h,e=>by
   simp only[IsL] at h
   obtain⟨v,r,rfl,e2,e3⟩:=h
   cases i with
   | zero=>simp at e;subst e;exact⟨v,rfl,e2⟩
   | succ i=>
     obtain⟨x,h1,h2⟩:=IsL.at (i:=i) e3 (by simpa using e)
     exact⟨x,by simpa using h1,h2⟩
theorem IsL.append:∀ {ds es:List PyData} {vs us:List V},IsL K H ds vs->IsL K H es us->IsL K H (ds++es) (vs++us)
 | [],_,_,_,h,g=>by simp only[IsL] at h;subst h;exact g
 | d :: ds,es,vs,us,h,g=>by
   simp only[IsL] at h
   obtain⟨v,r,rfl,e2,e3⟩:=h
   simp only[List.cons_append,IsL]
   exact⟨v,_,rfl,e2,IsL.append e3 g⟩
theorem IsL.one {d:PyData}{v:V}(h:Is K H d v):IsL K H [d] [v]:=by simp only[IsL];exact⟨v,[],rfl,h,rfl⟩
theorem IsL.nil:IsL K H [] []:=by simp only[IsL]
theorem IsL.cons {d:PyData} {v:V} {ds:List PyData} {vs:List V} (h:Is K H d v) (g:IsL K H ds vs):IsL K H (d :: ds) (v :: vs):=by simp only[IsL];exact⟨v,vs,rfl,h,g⟩
theorem IsL.take:∀ {ds:List PyData} {vs:List V} (n:Nat),IsL K H ds vs->IsL K H (ds.take n) (vs.take n)
 | ds,vs,0,h=>by simp only[List.take_zero];exact .nil
 | [],vs,n+1,h=>by simp only[IsL] at h;subst h;exact .nil
 | d :: ds,vs,n+1,h=>by
   simp only[IsL] at h
   obtain⟨v,r,rfl,e2,e3⟩:=h
   exact .cons e2 (IsL.take n e3)
theorem IsL.drop:∀ {ds:List PyData} {vs:List V} (n:Nat),IsL K H ds vs->IsL K H (ds.drop n) (vs.drop n)
 | ds,vs,0,h=>h
 | [],vs,n+1,h=>by simp only[IsL] at h;subst h;exact .nil
 | d :: ds,vs,n+1,h=>by
   simp only[IsL] at h
   obtain⟨v,r,rfl,e2,e3⟩:=h
   exact IsL.drop n e3
theorem IsL.str_eq:∀ {ns:List Str} {vs:List V},IsL K H (ns.map PyData.str) vs->vs=ns.map V.str
 | [],vs,h=>by simp only[List.map_nil,IsL] at h;exact h
 | n :: ns,vs,h=>by
   simp only[List.map_cons,IsL,Is] at h
   obtain⟨v,r,rfl,rfl,e3⟩:=h
   rw[IsL.str_eq e3]
   rfl
theorem Is.tup {ds:List PyData}{v:V}(h:Is K H (.tuple ds) v):∃ a xs,v = .ref a/\SqT K H a xs/\IsL K H ds xs:=by simpa only[Is] using h
theorem Is.of_tup {ds:List PyData}{a:Addr}{xs:List V}(h:SqT K H a xs)(g:IsL K H ds xs):Is K H (.tuple ds) (.ref a):=by simp only[Is];exact⟨a,xs,rfl,h,g⟩
theorem Is.str {z:Str}{v:V}(h:Is K H (.str z) v):v = .str z:=by simpa only[Is] using h
theorem Jm {z:Str}:Is K H (.str z) (.str z):=by simp only[Is]
theorem Jw {z:Int}:Is K H (.int z) (.int z):=by simp only[Is]
end
def nmD (ns:List Str):PyData:=.tuple (ns.map PyData.str)
def prD (p:Str×Str):PyData:=.tuple [.str p.1,.str p.2]
def psD (ps:List (Str×Str)):PyData:=.tuple (ps.map prD)
def hfD (ns:List Str)(ps:List (Str×Str)):PyData:=.tuple [nmD ns,psD ps]
theorem J4:∀ ns:List Str,Jl (ns.map PyData.str)=true
 | []=>rfl
 | n :: ns=>by simp only[List.map_cons,Jl,frz,J4 ns,Bool.and_self]
theorem Jc (ns:List Str):frz (nmD ns)=true:=by simp only[nmD,frz,J4]
theorem Hd (p:Str×Str):frz (prD p)=true:=by simp[prD,frz,Jl]
theorem Bv:∀ ps:List (Str×Str),Jl (ps.map prD)=true
 | []=>rfl
 | n :: ns=>by simp only[List.map_cons,Jl,Hd,Bv ns,Bool.and_self]
theorem Yd (ps:List (Str×Str)):frz (psD ps)=true:=by simp only[psD,frz,Bv]
theorem ab1 (ns:List Str)(ps:List (Str×Str)):frz (hfD ns ps)=true:=by simp only[hfD,frz,Jl,Jc,Yd,Bool.and_self]
section
variable {K:PySem.W.Frag}{H H':Hp}
theorem Is.nm {ns:List Str}{v:V}(h:Is K H (nmD ns) v):∃ a,v = .ref a/\SqT K H a (ns.map V.str):=by
 obtain⟨a,xs,rfl,h1,h2⟩:=Is.tup h
 exact⟨a,rfl,by rw[<- IsL.str_eq h2];exact h1⟩
theorem Mq {ns:List Str}{a:Addr}(h:SqT K H a (ns.map V.str)):Is K H (nmD ns) (.ref a):=Is.of_tup h (Tk ns)
theorem Is.pr {p:Str×Str}{v:V}(h:Is K H (prD p) v):∃ a,v = .ref a/\SqT K H a [.str p.1,.str p.2]:=by
 obtain⟨a,xs,rfl,h1,h2⟩:=Is.tup h
 simp only[IsL,Is] at h2
 obtain⟨_,_,rfl,rfl,_,_,rfl,rfl,rfl⟩:=h2
 exact⟨a,rfl,h1⟩
theorem Ny {x y:Str}{a:Addr}(h:SqT K H a [.str x,.str y]):Is K H (prD (x,y)) (.ref a):=Is.of_tup h (.cons Jm (.one Jm))
theorem Is.hf {ns:List Str}{ps:List (Str×Str)}{v:V}(h:Is K H (hfD ns ps) v):∃ a x y,v = .ref a/\SqT K H a [x,y]/\Is K H (nmD ns) x/\Is K H (psD ps) y:=by
 obtain⟨a,xs,rfl,h1,h2⟩:=Is.tup h
 simp only[IsL] at h2
 obtain⟨x,_,rfl,hx,y,_,rfl,hy,rfl⟩:=h2
 exact⟨a,x,y,rfl,h1,hx,hy⟩
theorem aa4 {ns:List Str}{ps:List (Str×Str)}{a:Addr}{x y:V}(h:SqT K H a [x,y])(hx:Is K H (nmD ns) x)(hy:Is K H (psD ps) y):Is K H (hfD ns ps) (.ref a):=Is.of_tup h (.cons hx (.one hy))
theorem Is.nm_fz {ns:List Str}{v:V}(h:Is K H (nmD ns) v)(e:Fz H H'):Is K H' (nmD ns) v:=Is.fz e _ _ (Jc ns) h
theorem Is.pr_fz {p:Str×Str}{v:V}(h:Is K H (prD p) v)(e:Fz H H'):Is K H' (prD p) v:=Is.fz e _ _ (Hd p) h
theorem Is.ps_fz {ps:List (Str×Str)}{v:V}(h:Is K H (psD ps) v)(e:Fz H H'):Is K H' (psD ps) v:=Is.fz e _ _ (Yd ps) h
theorem Is.hf_fz {ns:List Str}{ps:List (Str×Str)}{v:V}(h:Is K H (hfD ns ps) v)(e:Fz H H'):Is K H' (hfD ns ps) v:=Is.fz e _ _ (ab1 ns ps) h
variable {σ:St}{Q:VK}{x v:V}{i:Int}
theorem Vh {a:Addr}{xs:List V}(h:SqT K H a xs)(e:atI xs i=some v)(k:Q v H):Jx K (.ref a) (.int i) H Q:=.inl (.inr (.inl ⟨a,xs,i,v,rfl,rfl,h,e,k⟩))
theorem ah6 {a:Addr}{xs:List V}(h:SqL K H a xs)(e:atI xs i=some v)(k:Q v H):Jx K (.ref a) (.int i) H Q:=.inl (.inl ⟨a,xs,i,v,rfl,rfl,h,e,k⟩)
theorem ak1 {ns:List Str}{z:Str}(h:Is K H (nmD ns) x)(e:atI ns i=some z)(k:Q (.str z) H):Jx K x (.int i) H Q:=by
 obtain⟨a,rfl,h1⟩:=h.nm
 refine Vh h1 ?_ k
 unfold atI at e ⊢
 rw[List.length_map]
 cases hj:ixN ns.length i with
 | none=>rw[hj] at e;cases e
 | some j=>
   rw[hj] at e
   show(ns.map V.str)[j]? = _
   rw[List.getElem?_map,show ns[j]? = some z from e]
   rfl
theorem Ga {ns:List Str}{ps:List (Str×Str)}(h:Is K H (hfD ns ps) x)(k:∀ v,Is K H (nmD ns) v->Q v H):Jx K x (.int 0) H Q:=by
 obtain⟨a,u,w,rfl,h1,h2,h3⟩:=h.hf
 exact Vh h1 rfl (k u h2)
theorem ac4 {ns:List Str}{ps:List (Str×Str)}(h:Is K H (hfD ns ps) x)(k:∀ v,Is K H (psD ps) v->Q v H):Jx K x (.int 1) H Q:=by
 obtain⟨a,u,w,rfl,h1,h2,h3⟩:=h.hf
 exact Vh h1 rfl (k w h3)
theorem Sr {p:Str×Str}(h:Is K H (prD p) x)(k:Q (.str p.1) H):Jx K x (.int 0) H Q:=by
 obtain⟨a,rfl,h1⟩:=h.pr
 exact Vh h1 rfl k
theorem Vm {p:Str×Str}(h:Is K H (prD p) x)(k:Q (.str p.2) H):Jx K x (.int 1) H Q:=by
 obtain⟨a,rfl,h1⟩:=h.pr
 exact Vh h1 rfl k
theorem ac2 {ds:List PyData}(h:Is K H (.tuple ds) x)(k:Q (.int ds.length) H):Ro K [x] H Q:=by
 obtain⟨a,xs,rfl,h1,h2⟩:=h.tup
 rw[IsL.length h2] at k
 exact .inl ⟨.ref a,_,rfl,.inr ⟨xs,h1,rfl⟩,k⟩
theorem ae0 {ns:List Str}(h:Is K H (nmD ns) x)(k:Q (.int ns.length) H):Ro K [x] H Q:=ac2 h (by rw[List.length_map];exact k)
theorem Gx (ns:List Str):(ns.map V.str).all Lo=true:=by
 rw[List.all_eq_true]
 intro v h
 obtain ⟨n,_,rfl⟩:=List.mem_map.mp h
 rfl
theorem Ie (z:Str):∀ ns:List Str,inV (.str z) (ns.map V.str)=decide (z∈ns)
 | []=>rfl
 | n :: ns=>by
   have ih:=Ie z ns
   unfold inV at ih ⊢
   rw[List.map_cons,List.any_cons,ih]
   have e:eqV (V.str n) (V.str z)=decide (n=z):=by
    show(n==z)=_
    by_cases h:n=z<;>simp[h]
   rw[e]
   by_cases h:n=z
   . subst h
     simp
   have h':¬ z=n:=fun q=>h q.symm
   by_cases g:z∈ns<;>simp[h,h',g]
theorem Ur {ns:List Str}{z:Str}{a:Addr}(h:SqL K H a (ns.map V.str))(k:Q (.bl (decide (z∈ns))) H):Wq K false (.str z) (.ref a) H Q:=
 .inl ⟨a,_,rfl,.inl h,rfl,Gx ns,by rw[Ie];exact k⟩
theorem af1 {ns:List Str}{z:Str}(h:Is K H (nmD ns) x)(k:Q (.bl (!decide (z∈ns))) H):Wq K true (.str z) x H Q:=by
 obtain⟨a,rfl,h1⟩:=h.nm
 exact .inl ⟨a,_,rfl,.inr h1,rfl,Gx ns,by rw[Ie];exact k⟩
theorem Za {ns:List Str}{z:Str}{a:Addr}(h:SqL K H a (ns.map V.str))(k:Q (.bl (!decide (z∈ns))) H):Wq K true (.str z) (.ref a) H Q:=
 .inl ⟨a,_,rfl,.inl h,rfl,Gx ns,by rw[Ie];exact k⟩
theorem Py {a:Addr}{u w:V}{n m:Nat}{R:St->Hp->Prop}(h:SqT K H a [u,w])(k:R ((σ.set n (some u)).set m (some w)) H):ab6 K 2 (Rm (Ir n) (Rm (Ir m) ai0)) (.ref a) σ H R:=
 ⟨a,_,rfl,h,rfl,u,[w],rfl,w,[],rfl,rfl,k⟩
theorem Xu {ds:List PyData}{g:TG}{tb:TS}{D:Ka}(h:Is K H (.tuple ds) x)(hf:Jl ds=true)(Pv:Nat->St->Hp->Prop)(h0:Pv 0 σ H)(hG:∀ i σ' H',Pv i σ' H'->Fz H H')
  (hs:∀ i d v σ' H',ds[i]? = some d->Is K H' d v->Pv i σ' H'->g v σ' H' fun σ2 H2=>tb { D with nx:=Pv (i+1),ct:=Pv (i+1),bk:=D.nx } σ2 H2) (hd:∀ σ' H',Pv ds.length σ' H'->D.nx σ' H') :
  Du K x H fun J H1=>Zf g tb D σ J H1:=by
 obtain⟨a,xs,rfl,h1,h2⟩:=h.tup
 refine Oh h1 (Ck Et Pv h0 (fun i σ' H' p=>(hG i σ' H' p).seq h1) (fun i v σ' H' hx hi p=>?_) fun σ' H' p=>hd σ' H' (by rw[IsL.length h2];exact p))
 obtain⟨d,e1,e2⟩:=IsL.get (IsL.fz (hG i σ' H' p) ds xs hf h2) hx
 exact hs i d v σ' H' e1 e2 p
theorem Kj {ns:List Str}{g:TG}{tb:TS}{D:Ka}(h:Is K H (nmD ns) x)(Pv:Nat->St->Hp->Prop)(h0:Pv 0 σ H)(hG:∀ i σ' H',Pv i σ' H'->Fz H H')
  (hs:∀ i z σ' H',ns[i]? = some z->Pv i σ' H'->g (.str z) σ' H' fun σ2 H2=>tb { D with nx:=Pv (i+1),ct:=Pv (i+1),bk:=D.nx } σ2 H2) (hd:∀ σ' H',Pv ns.length σ' H'->D.nx σ' H') :
  Du K x H fun J H1=>Zf g tb D σ J H1:=
 Xu h (J4 ns) Pv h0 hG (fun i d v σ' H' e h p=>by
  rw[List.getElem?_map] at e
  cases hn:ns[i]? with
  | none=>rw[hn] at e;cases e
  | some z=>
    rw[hn] at e
    cases e
    rw[h.str]
    exact hs i z σ' H' hn p) fun σ' H' p=>hd σ' H' (by rw[List.length_map] at p;exact p)
theorem ac9 {ps:List (Str×Str)}{g:TG}{tb:TS}{D:Ka}(h:Is K H (psD ps) x)(Pv:Nat->St->Hp->Prop)(h0:Pv 0 σ H)(hG:∀ i σ' H',Pv i σ' H'->Fz H H')
  (hs:∀ i p v σ' H',ps[i]? = some p->Is K H' (prD p) v->Pv i σ' H'->g v σ' H' fun σ2 H2=>tb { D with nx:=Pv (i+1),ct:=Pv (i+1),bk:=D.nx } σ2 H2) (hd:∀ σ' H',Pv ps.length σ' H'->D.nx σ' H') :
  Du K x H fun J H1=>Zf g tb D σ J H1:=
 Xu h (Bv ps) Pv h0 hG (fun i d v σ' H' e h p=>by
  rw[List.getElem?_map] at e
  cases hn:ps[i]? with
  | none=>rw[hn] at e;cases e
  | some z=>
    rw[hn] at e
    cases e
    exact hs i z v σ' H' hn h p) fun σ' H' p=>hd σ' H' (by rw[List.length_map] at p;exact p)
theorem Dn {α:Type}(f:α->PyData)(hf:∀ a,frz (f a)=true):∀ xs:List α,Jl (xs.map f)=true
 | []=>rfl
 | x :: xs=>by simp only[List.map_cons,Jl,hf,Dn f hf xs,Bool.and_self]
theorem Cz {α:Type}{J:It}{xs:List V}{G:Hp->Prop}{g:TG}{tt:TT}{te:TE}{Q:VK}{k:Nat}{js:List Nat}(hw:Fe J xs G)(as:List α)(hl:as.length=xs.length)(t:α->Bool)(f:α->PyData)(hf:∀ a,frz (f a)=true)(hz:xs.length<=1000000)(hG:∀ H',Same H H'->G H')
  (hs:∀(i:Nat) a v H1 (R:VK) (R':Hp->Prop),as[i]? = some a->xs[i]? = some v->Same H H1->(t a=true->∀ y H2,Same H1 H2->Is K H2 (f a) y->R y H2)->(t a=false->∀ H2,Same H1 H2->R' H2) ->
   g v (List.replicate k none++L6 σ js) H1 fun σ2 H2=>tt σ2 H2 fun b H3=>if b=true then te σ2 H3 R else R' H3)
  (hd:∀ p ys H',H p=none->Same H H'->H' p=some (.lst ys)->IsL K H' ((as.filter t).map f) ys->Q (.ref p) H'):Kt k js g tt te σ J H Q:=by
 refine Gg hw (fun p i acc H1=>Same H H1/\IsL K H1 (((as.take i).filter t).map f) acc) (fun p H' hp e h=>⟨e,by simp only[List.take_zero,List.filter_nil,List.map_nil];exact .nil⟩) (fun p i acc H1 h=>hG H1 h.1) (fun p i x acc H1 hp hx hi hl1 ha ⟨e,hacc⟩=>?_) fun p acc H1 hp ha hl1 ⟨e,hacc⟩=>?_
 . have hi':i<as.length:=by omega
   obtain⟨a,hai⟩:∃ a,as[i]? = some a:=⟨as[i],List.getElem?_eq_getElem hi'⟩
   have ht:as.take (i+1)=as.take i++[a]:=by rw[List.take_add_one,hai];rfl
   refine hs i a x H1 _ _ hai hx e (fun h y H2 e2 hy=>?_) fun h H2 e2=>?_
   . refine Je hz hi hl1 (e2 _ _ ha) fun H' e' h'=>⟨fun b o hb=>e' b o (ne_of_none hb hp) (e2 _ _ (e b o hb)),?_⟩
     rw[ht,List.filter_append,List.map_append]
     have fz:=e'.fzL (e2 _ _ ha)
     refine IsL.append (IsL.fz (e2.fz.trans fz) _ _ (Dn f hf _) hacc) ?_
     simp only[List.filter_cons,h,if_true,List.filter_nil,List.map_cons,List.map_nil]
     exact .one (Is.fz fz _ _ (hf a) hy)
   refine Og hi hl1 (e2 _ _ ha) ⟨e.trans e2,?_⟩
   rw[ht,List.filter_append,List.map_append]
   simp only[List.filter_cons,h,Bool.false_eq_true,if_false,List.filter_nil,List.map_nil,List.append_nil]
   exact IsL.mono e2 _ _ hacc
 refine hd p acc H1 hp e ha ?_
 rw[<- hl,List.take_length] at hacc
 exact hacc
end
section
variable {X:Cx}{K:PySem.W.Frag}
def a69:PyData->Bool
 | .list _=>true
 | .tuple _=>true
 | _=>false
mutual
theorem Is.noDict {H:Hp}:∀(d:PyData) (v:V),Is K H d v->d.hasDict=false
 | .none,_,h=>by simp only[PyData.hasDict]
 | .bool _,_,h=>by simp only[PyData.hasDict]
 | .int _,_,h=>by simp only[PyData.hasDict]
 | .str _,_,h=>by simp only[PyData.hasDict]
 | .list ds,v,h=>by
   simp only[Is] at h
   obtain⟨a,xs,e1,e2,e3⟩:=h
   simp only[PyData.hasDict]
   exact IsL.noDict ds xs e3
 | .tuple ds,v,h=>by
   simp only[Is] at h
   obtain⟨a,xs,e1,e2,e3⟩:=h
   simp only[PyData.hasDict]
   exact IsL.noDict ds xs e3
 | .dict _,_,h=>by simp only[Is] at h
theorem IsL.noDict {H:Hp}:∀(ds:List PyData) (vs:List V),IsL K H ds vs->PyData.hasDictAll ds=false
 | [],_,h=>by simp only[PyData.hasDictAll]
 | d :: ds,vs,h=>by
   simp only[IsL] at h
   obtain⟨v,r,e1,e2,e3⟩:=h
   simp only[PyData.hasDictAll,Is.noDict d v e2,IsL.noDict ds r e3,Bool.or_self]
end
structure Sh (d:PyData):Prop where
 dp:a69 d=true
 sh:d.showable=true
 fits:d.shown.length<=sizeLine
 deep:d.depth<=100
theorem Km (hq:QA X.A):CallR X (.builtin "repr") (fun xs H Q=>∃ x d,xs=[x]/\Is X.K H d x/\Sh d/\Q (.str d.shown) H):=by
 intro pins s σ H xs us Q I rv h
 obtain⟨x,d,rfl,i,S,q⟩:=h
 obtain⟨u,rfl,ru⟩:=rv.one
 obtain⟨as,ra⟩:=Is.reads I d x u i ru
 have href:∃ a,u = .ref a:=by
  have hd:=S.dp
  cases d with
  | list ds=>simp only[Is] at i;obtain⟨a,_,rfl,_⟩:=i;exact⟨a,ru⟩
  | tuple ds=>simp only[Is] at i;obtain⟨a,_,rfl,_⟩:=i;exact⟨a,ru⟩
  | _=>cases hd
 obtain⟨a,rfl⟩:=href
 refine repr_of_reads' ra S.sh (fun hx=>absurd hx (by rw[Is.noDict d x i];exact Bool.false_ne_true)) hq.gd (by have:=hq.un;have:=S.deep;omega) (fun _ _ e=>e) (fun h' t tk hk=>?_) S.fits
 exact⟨.str d.shown,H,I.kept hk,⟨t,rfl⟩,q⟩
def Qu (z:Str)(n:Nat):Str:=⟨(List.replicate n z.cps).foldl (· ++ ·) #[]⟩
def ag2:R2:=fun x y H Q=>∃ z n,x = .str z/\y = .int n/\2<=n/\n<=1000/\z.length<=1000/\0<z.length/\Q (.str (Qu z n.toNat)) H
theorem a46:OpR X (binaryOp .Mult) ag2:=by
 intro pins s σ H x y v u Q I rx ry h
 obtain⟨z,n,rfl,rfl,h1,h2,h3,h4,q⟩:=h
 obtain⟨t,rfl⟩:=rx
 obtain⟨t2,rfl⟩:=ry
 have a1:¬ n<1:=by omega
 have a2:(n==1||z.length==0)=false:=by
  have e1:(n==1)=false:=by simp;omega
  have e2:(z.length==0)=false:=by simp;omega
  rw[e1,e2];rfl
 have hz:z.length*n.toNat<=1000000:=by
  have:z.length*n.toNat<=1000*1000:=Nat.mul_le_mul h3 (by omega)
  omega
 have hlen:(Qu z n.toNat).length<=sizeLine:=by
  have e:∀(m:Nat) (a:Array Nat),((List.replicate m z.cps).foldl (· ++ ·) a).size=a.size+m*z.cps.size:=by
   intro m
   induction m with
   | zero=>intro a;simp
   | succ m ih=>intro a;rw[List.replicate_succ,List.foldl_cons,ih,Array.size_append,Nat.succ_mul];omega
  show((List.replicate n.toNat z.cps).foldl (· ++ ·) #[]).size<=sizeLine
  rw[e]
  have e2:z.cps.size=z.length:=rfl
  rw[e2,sizeLine_eq,Nat.mul_comm]
  simp
  omega
 refine PySem.P.mul_str (by
   have b1:¬ n < -(2 ^ 63:Int):=by omega
   have b2:¬ n>=2 ^ 63:=by omega
   rw[decide_eq_false b1,decide_eq_false b2];rfl) (fun _ _=>?_) (fun _ _=>?_) ?_
 . have:(2 ^ 63-1:Int) / n>=1000:=by
    refine Int.le_ediv_of_mul_le (by omega) ?_
    have:1000*n<=1000*1000:=by omega
    omega
   omega
 . have hz2:z.length*n.toNat<=sizeLine:=Ac hz
   rw[sizeLine_eq] at hz2
   unfold Builtin.Str.tooLong
   simp[sizeLine_eq]
   omega
 rw[if_neg a1,a2,if_neg Bool.false_ne_true]
 exact⟨hlen,.str _,H,I.kept fun _ _ e=>e,⟨_,rfl⟩,q⟩
def Wv:R2:=fun x y H Q=>Xr x y H Q\/ag2 x y H Q
theorem Ct:OpR X (binaryOp .Mult) Wv:=op_mulA.or a46
theorem i_mulBI {i j:Int}{H:Hp}{Q:VK}(h:CMul i j)(k:Q (.int (i*j)) H):Wv (.int i) (.int j) H Q:=.inl (ag8 h k)
theorem Zq {z:Str}{n:Int}{H:Hp}{Q:VK}(h:2<=n/\n<=1000/\z.length<=1000/\0<z.length)(k:Q (.str (Qu z n.toNat)) H):Wv (.str z) (.int n) H Q:=.inr ⟨z,n,rfl,rfl,h.1,h.2.1,h.2.2.1,h.2.2.2,k⟩
theorem a06 {i:Int}{H:Hp}{Q:VK}{a:Addr}{xs:List V}(h1:H a=some (.lst xs))(h2:-(2 ^ 63)<=i/\i<2 ^ 63)(h3:xs.length*i.toNat<=sizeLine)(k:∀ p H',H p=none->Same H H'->H' p=some (.lst (List.replicate i.toNat xs).flatten)->Q (.ref p) H'):Wv (.ref a) (.int i) H Q:=.inl (ag0 h1 h2 h3 k)
def rIs (neg:Bool):R2:=fun x y H Q=>(y = .non/\Q (.bl (if neg then !decide (x = .non) else decide (x = .non))) H)\/∃ a b,x = .bl a/\y = .bl b/\Q (.bl (if neg then !(a==b) else a==b)) H
theorem af8:OpR X (compareOp .Is) (rIs false):=by
 intro pins s σ H x y v u Q I rx ry h
 rcases h with ⟨rfl,q⟩ | ⟨a,b,rfl,rfl,q⟩
 . exact ab8 pins s σ H x .non v u Q I rx ry ⟨rfl,q⟩
 cases rx
 cases ry
 refine wpAny_is_plain rfl ?_
 refine⟨.bl _,H,I,?_,q⟩
 show Value.bool (Value.bool a==Value.bool b)=Value.bool (a==b)
 cases a<;>cases b<;>rfl
theorem i_isN {x:V}{H:Hp}{Q:VK}(k:Q (.bl (decide (x = .non))) H):rIs false x .non H Q:=.inl ⟨rfl,k⟩
def al9 (xs:List V)(i:Nat)(y:V):List V:=xs.take i++y :: xs.drop i
def Vv:V->List V->Hp->VK->Prop:=fun x vs H Q=>∃ l xs i y,x = .ref l/\vs=[.int i,y]/\H l=some (.lst xs)/\0<=i/\i<=xs.length/\xs.length<sizeLine/\Q .non (upd H l (.lst (al9 xs i.toNat y)))
theorem Sk:MtM X "list.insert" Vv:=by
 intro pins s σ H x vs v us Q I rx rv h
 obtain⟨l,xs,i,y,rfl,rfl,hH,h0,h1,hz,q⟩:=h
 cases rx
 obtain⟨u,w,rfl,ru,rw'⟩:=Vals.two rv
 obtain⟨t,rfl⟩:=ru
 obtain⟨z,its,n,r,hl,e⟩:=I.lstM hH
 have hlen:=r.length
 refine call_meets F.slot_list_insert ⟨_,e,rfl⟩ F.entry_list_insert (F.args_list_insert_3 _ _ _)
  (AutoSeq1.list_insert_list_int_val_1 l its.toArray n i t w (by rw[fitsIndex_both (by omega) (by rw[sizeLine_eq] at hz;omega)];decide) (by rw[List.size_toArray];omega)) ⟨e,?_⟩
 refine⟨.non,_,I.lset (its':=its.take i.toNat++w :: its.drop i.toNat) hH e ?_ ((r.take i.toNat).append (.cons rw' (r.drop i.toNat))) ?_,rfl,q⟩
 . have hi:i.toNat<=its.length:=by omega
   show(have k:=if i<0 then(i+((its.toArray.size:Nat):Int)).toNat else min i.toNat its.toArray.size;(its.toArray.extract 0 k).push w++its.toArray.extract k)=_
   rw[if_neg (by omega),List.size_toArray,Nat.min_eq_left hi]
   simp[List.extract_eq_drop_take]
   exact List.take_of_length_le (by rw[List.length_drop];omega)
 rw[List.length_append,List.length_cons,List.length_take,List.length_drop]
 omega
section
variable {D:Ka}{σ:St}{H:Hp}{t u:TS}{te td ty tv:TE}{g:TG}
theorem Om (M:St->Hp->Prop)(h1:∀ N:St->Hp->Prop,(∀ σ' H',M σ' H'->N σ' H')->t { D with nx:=N } σ H)(h2:∀ σ' H',M σ' H'->u D σ' H'):ai3 t u D σ H:=h1 (u D) h2
end
theorem Wc {a:Addr}{xs:List V}{H:Hp}{Q:VK}(h:SqL K H a xs\/SqT K H a xs)(k:∀ p H',H p=none->Same H H'->H' p=some (.lst xs)->Q (.ref p) H'):Pj K [.ref a] H Q:=⟨a,xs,rfl,h,fun p hp=>k p _ hp (Same.upd hp) A9⟩
theorem mm {id:String}{r:V->List V->Hp->VK->Prop}(h:MtM X id r):MtR X id r:=h
theorem i_tyLm {a:Addr}{xs:List V}{H:Hp}{B:Prop}(h:H a=some (.lst xs))(k:B):tyV K "list" (.ref a) H/\B:=⟨.inl ⟨rfl,xs,SqL.of h⟩,k⟩
theorem al1 {l:Addr}{xs:List V}{y:V}{i:Int}{H:Hp}{Q:VK}(h:H l=some (.lst xs))(h0:0<=i)(h1:i<=xs.length)(hz:xs.length<=1000000)(k:∀ H',ExtBut l H H'->H' l=some (.lst (al9 xs i.toNat y))->Q .non H'):Vv (.ref l) [.int i,y] H Q:=
 ⟨l,xs,i,y,rfl,rfl,h,h0,h1,by rw[sizeLine_eq];omega,k _ ExtBut.upd A9⟩
theorem Qh {l:Addr}{xs:List V}{y:V}{H:Hp}{Q:VK}(h:H l=some (.lst xs))(hz:xs.length<=1000000)(k:∀ H',ExtBut l H H'->H' l=some (.lst (xs++[y]))->Q .non H'):Uh (.ref l) [y] H Q:=
 ⟨l,xs,y,rfl,rfl,h,by rw[sizeLine_eq];omega,k _ ExtBut.upd A9⟩
theorem T3 {l b:Addr}{xs zs:List V}{H:Hp}{Q:VK}(h:H l=some (.lst xs))(hb:H b=some (.lst zs))(hz:xs.length+zs.length<=1000000)(k:∀ H',ExtBut l H H'->H' l=some (.lst (xs++zs))->Q .non H'):Tn (.ref l) [.ref b] H Q:=
 ⟨l,b,xs,zs,rfl,rfl,h,hb,Ac hz,k _ ExtBut.upd A9⟩
theorem Xq {l:Addr}{xs:List V}{y:V}{i:Int}{H:Hp}{Q:VK}(h:H l=some (.lst xs))(h0:0<=i)(h1:xs[i.toNat]? = some y)(k:∀ H',ExtBut l H H'->H' l=some (.lst (xs.eraseIdx i.toNat))->Q y H')(hz:xs.length<=1000000):Ys (.ref l) [.int i] H Q:=by
 have h2:=(List.getElem?_eq_some_iff.mp h1).1
 refine⟨l,xs,i,i.toNat,y,rfl,rfl,h,by omega,by omega,?_,h1,k _ ExtBut.upd A9⟩
 have e:=Lb (Bj (α:=V) h1)
 obtain⟨j,e1,e2,e3,_⟩:=e
 rw[Int.toNat_of_nonneg h0] at e1
 rw[e1]
 have e4:seqIndex? i xs.length=some i.toNat:=by
  unfold seqIndex? at e1 ⊢
  simp[show ¬ i<0 by omega] at e1 ⊢
  omega
 rw[<- e1,e4]
def Rb (xs:List V)(k:Int):List V:=if k=1 then xs else xs.reverse
def Uy (K:PySem.W.Frag):V->V->Hp->VK->Prop:=fun x y H Q=>∃ a xs k,x = .ref a/\y = .int k/\(k=1\/k = -1)/\SqL K H a xs/\∀ p,H p=none->Q (.ref p) (upd H p (.lst (Rb xs k)))
theorem Ww (items:Array Value):slicePick items none none (some 1)=items:=by
 have e:slicePick items none none (some 1)=slicePick items none none none:=rfl
 rw[e,Hb]
 simp[HT.sIx]
 rw[show items.size=items.toList.length by simp,List.take_length]
theorem M1 {e st:Expr}{te ts:TE}{p2 pos:Pos}(he:PE X e te)(hst:PE X st ts)(hK:X.K=K:=by ac_nf):PE X (.Subscript e (.Slice none none (some st) p2) pos) (tOp (Uy K) te ts):=by
 subst hK
 intro pins s σ H Q I h
 refine Subscript_ (thn (he pins s σ H _ I h) fun v s1 ⟨x,H1,I1,r1,q1⟩=>?_)
 refine wpAny_Slice ?_
 rw[evalPart_none]
 refine wpAny_pure (wpAny_pure ?_)
 rw[evalPart_some]
 refine thn (hst pins s1 σ H1 _ I1 q1) fun u s2 ⟨y,H2,I2,r2,q2⟩=>?_
 obtain⟨a,xs,k,rfl,rfl,hk,hx,q⟩:=q2
 cases r1
 obtain⟨t,rfl⟩:=r2
 have I4:Inv X pins σ H2 { s2 with heap:=s2.heap.push { cls:=.type "slice",data:=.fields #[.none,.none,.int k t] } }:=I2.kept (t':=s2.toks) fun b ob q=>Heap.get?_push_of_some _ q
 obtain⟨its,r,ht,hz⟩:=I4.list hx
 have hlen:=r.length
 refine tail_any (ops:=[.ref a,.ref s2.heap.objs.size]) ht.isList.typeIs slot_list_getitem.lookup ?_ (by ac_nf)
 refine wpAny_getItem_list_slice ht.isList (Heap.IsSliceOf.new ..) .none .none (.int k t) (by rcases hk with rfl | rfl<;>decide) ?_ (by rw[List.size_toArray];omega)
 rcases hk with rfl | rfl
 . rw[Ww]
   refine⟨.ref _,_,I4.laid (t':=s2.toks) (o:=.lst (Rb xs 1)) (fun b ob q=>Heap.get?_push_of_some _ q) (Nat.le_refl _) ?_,rfl,q _ (I4.hok.fresh (Nat.le_refl _))⟩
   exact⟨hz,_,0,r,Heap.get?_push_size _ rfl⟩
 rw[PySem.W.krv_pick]
 refine⟨.ref _,_,I4.laid (t':=s2.toks) (o:=.lst (Rb xs (-1))) (fun b ob q=>Heap.get?_push_of_some _ q) (Nat.le_refl _) ?_,rfl,q _ (I4.hok.fresh (Nat.le_refl _))⟩
 exact⟨by show xs.reverse.length<=_;rw[List.length_reverse];exact hz,_,0,by show Vals xs.reverse _;exact r.reverse,Heap.get?_push_size _ rfl⟩
theorem ae1 {a:Addr}{xs:List V}{k:Int}{H:Hp}{Q:VK}(h:SqL K H a xs)(hk:k=1\/k = -1)(c:∀ p H',H p=none->Same H H'->H' p=some (.lst (Rb xs k))->Q (.ref p) H'):Uy K (.ref a) (.int k) H Q:=
 ⟨a,xs,k,rfl,rfl,hk,h,fun p hp=>c p _ hp (Same.upd hp) A9⟩
end
def Hr (c:Nat):Bool:=decide (97<=c)&&decide (c<=122)
def Qv (x:Str):Bool:=decide (1<=x.length)&&decide (x.length<=8)&&x.cps.toList.all Hr
def Names (ns:List Str):Prop:=ns.Nodup/\∀ z∈ns,Qv z=true
def LL:Str:="abcdefghijklmnopqrstuvwxyzabcdefghijklmnopqrstuvwxyz"
theorem a91:Qu "abcdefghijklmnopqrstuvwxyz" (2:Int).toNat=LL:=by decide +kernel
def LLn:List Nat:=LL.cps.toList
theorem ae8:LL.length=52:=by decide +kernel
theorem Hh:LLn.length=52:=by decide +kernel
theorem Qf:∀ c∈LLn,Hr c=true:=by decide +kernel
def txt (l:List Nat):Str:=⟨l.toArray⟩
theorem Zm {a b:List Nat}(h:txt a=txt b):a=b:=by
 have:a.toArray=b.toArray:=congrArg Str.cps h
 simpa using this
theorem Uw (a b:List Nat):txt a++txt b=txt (a++b):=by
 show(⟨a.toArray++b.toArray⟩:Str)=⟨(a++b).toArray⟩
 simp
theorem Gu {l:List Nat}(h0:1<=l.length)(h1:l.length<=8)(h2:∀ c∈l,Hr c=true):Qv (txt l)=true:=by
 unfold Qv
 have e:(txt l).length=l.length:=by show l.toArray.size=_;simp
 rw[e,decide_eq_true h0,decide_eq_true h1]
 show(true&&true&&l.all Hr)=true
 rw[List.all_eq_true.mpr h2]
 rfl
def K3 (a b:Nat):List Nat:=(LLn.drop a).take (b-a)
theorem Ih {a b:Nat}(h:a<=b)(h1:b<=52):(K3 a b).length=b-a:=by
 unfold K3
 rw[List.length_take,List.length_drop,Hh]
 omega
theorem G6 {a b:Nat}:∀ c∈K3 a b,Hr c=true:=fun c hc=>Qf c (List.mem_of_mem_drop (List.mem_of_mem_take hc))
theorem Qo {i j:Int}(h0:0<=i)(h1:i<=j)(h2:j<=52):Txt.slice LL (some i) (some j)=txt (K3 i.toNat j.toNat):=by
 have e:=StrLaws.sliceText_plain (x:=LL) (i:=i) (j:=j) ⟨h0,h1,by rw[show LL.cps.toList.length=52 by decide +kernel];omega⟩
 have e2:(j-i).toNat=j.toNat-i.toNat:=by omega
 rw[e2] at e
 exact e
def M0 (i:Nat):List Nat:=(LLn.drop i).take 1
theorem a09 {i:Int}(h0:0<=i)(h1:i<52):∃ c,atI LL.cps.toList i=some c/\(⟨#[c]⟩:Str)=txt (M0 i.toNat):=by
 have h2:i.toNat<LLn.length:=by rw[Hh];omega
 refine⟨LLn[i.toNat],?_,?_⟩
 . have:=Bj (List.getElem?_eq_getElem h2)
   rwa[Int.toNat_of_nonneg h0] at this
 unfold M0
 rw[List.drop_eq_getElem_cons h2]
 rfl
theorem Lj {i:Nat}(h:i<52):(M0 i).length=1:=by
 unfold M0
 rw[List.length_take,List.length_drop,Hh]
 omega
theorem Hf {i:Nat}:∀ c∈M0 i,Hr c=true:=fun c hc=>Qf c (List.mem_of_mem_drop (List.mem_of_mem_take hc))
def nm0 (s:Nat):List (List Nat):=(List.range 8).map (fun k=>K3 s (s+1+k))++[M0 (s+9),M0 (s+10)]
def nm1 (s z a:Nat):List (List Nat):=(List.range 10).map fun k=>K3 s (s+a)++M0 (s+5*k % 26)++K3 (s+a+1) (s+z)
def nm2 (s:Nat):List (List Nat):=(List.range 10).map fun k=>K3 (s+k) (s+k+1+3*k % 8)
theorem nd0:∀ s<26,(nm0 s).Nodup:=by decide +kernel
theorem nd2:∀ s<26,(nm2 s).Nodup:=by decide +kernel
theorem nd1':∀ s<26,((List.range 10).map fun k=>M0 (s+5*k % 26)).Nodup:=by decide +kernel
theorem Fh {α β:Type}{f:α->β}:∀ {l:List α},l.Nodup->(∀ a∈l,∀ b∈l,f a=f b->a=b)->(l.map f).Nodup
 | [],_,_=>by simp
 | a :: l,h,hf=>by
   rw[List.map_cons,List.nodup_cons]
   rw[List.nodup_cons] at h
   refine⟨fun hm=>?_,Fh h.2 fun x hx y hy=>hf x (List.mem_cons_of_mem _ hx) y (List.mem_cons_of_mem _ hy)⟩
   obtain⟨b,hb,e⟩:=List.mem_map.mp hm
   have:=hf b (List.mem_cons_of_mem _ hb) a List.mem_cons_self e
   subst this
   exact h.1 hb
theorem Ff {α β:Type}{f:α->β}:∀ {l:List α},(l.map f).Nodup->∀ a∈l,∀ b∈l,f a=f b->a=b
 | [],_,a,ha,_,_,_=>by cases ha
 | c :: l,h,a,ha,b,hb,e=>by
   rw[List.map_cons,List.nodup_cons] at h
   rcases List.mem_cons.mp ha with q | ha'
   . rcases List.mem_cons.mp hb with q' | hb'
     . rw[q,q']
     exact absurd (List.mem_map.mpr ⟨b,hb',by rw[<- e,q]⟩) h.1
   rcases List.mem_cons.mp hb with q' | hb'
   . exact absurd (List.mem_map.mpr ⟨a,ha',by rw[e,q']⟩) h.1
   exact Ff h.2 a ha' b hb' e
theorem Jv {l:List (List Nat)}(h:l.Nodup):(l.map txt).Nodup:=Fh h fun a _ b _ e=>Zm e
theorem nd1 {s z a:Nat}(hs:s<26):(nm1 s z a).Nodup:=by
 refine Fh List.nodup_range fun k hk j hj e=>?_
 have e1:M0 (s+5*k % 26)=M0 (s+5*j % 26):=List.append_cancel_left (List.append_cancel_right e)
 exact Ff (f:=fun k=>M0 (s+5*k % 26)) (nd1' s hs) k hk j hj e1
theorem a89 {s:Nat}(hs:s<26):Names ((nm0 s).map txt):=by
 refine⟨Jv (nd0 s hs),fun z hz=>?_⟩
 obtain⟨l,hl,rfl⟩:=List.mem_map.mp hz
 rcases List.mem_append.mp hl with h | h
 . obtain⟨k,hk,rfl⟩:=List.mem_map.mp h
   have hk:=List.mem_range.mp hk
   have e:=Ih (a:=s) (b:=s+1+k) (by omega) (by omega)
   exact Gu (by omega) (by omega) G6
 simp only[List.mem_cons,List.not_mem_nil,or_false] at h
 rcases h with rfl | rfl
 . have e:=Lj (i:=s+9) (by omega)
   exact Gu (by omega) (by omega) Hf
 have e:=Lj (i:=s+10) (by omega)
 exact Gu (by omega) (by omega) Hf
theorem a68 {s z a:Nat}(hs:s<26)(ha:a<z)(hz:z<=8):Names ((nm1 s z a).map txt):=by
 refine⟨Jv (nd1 hs),fun y hy=>?_⟩
 obtain⟨l,hl,rfl⟩:=List.mem_map.mp hy
 obtain⟨k,hk,rfl⟩:=List.mem_map.mp hl
 have hm:5*k % 26<26:=Nat.mod_lt _ (by decide)
 have e1:=Ih (a:=s) (b:=s+a) (by omega) (by omega)
 have e2:=Lj (i:=s+5*k % 26) (by omega)
 have e3:=Ih (a:=s+a+1) (b:=s+z) (by omega) (by omega)
 refine Gu (by simp only[List.length_append];omega) (by simp only[List.length_append];omega) fun c hc=>?_
 rcases List.mem_append.mp hc with hc | hc
 . rcases List.mem_append.mp hc with hc | hc
   . exact G6 c hc
   exact Hf c hc
 exact G6 c hc
theorem ab2 {s:Nat}(hs:s<26):Names ((nm2 s).map txt):=by
 refine⟨Jv (nd2 s hs),fun z hz=>?_⟩
 obtain⟨l,hl,rfl⟩:=List.mem_map.mp hz
 obtain⟨k,hk,rfl⟩:=List.mem_map.mp hl
 have hk:=List.mem_range.mp hk
 have hm:3*k % 8<8:=Nat.mod_lt _ (by decide)
 have e:=Ih (a:=s+k) (b:=s+k+1+3*k % 8) (by omega) (by omega)
 exact Gu (by omega) (by omega) G6
def nm3:List Str:=["names","ahead","name","a","ab","aheads","last","ask","row","end"]
theorem ab3:Names nm3:=⟨by decide +kernel,by decide +kernel⟩
theorem Names.perm {ns ms:List Str}(h:Names ns)(p:ms.Perm ns):Names ms:=⟨p.nodup_iff.mpr h.1,fun z hz=>h.2 z (p.mem_iff.mp hz)⟩
theorem Names.sublist {ns ms:List Str}(h:Names ns)(p:ms.Sublist ns):Names ms:=⟨h.1.sublist p,fun z hz=>h.2 z (p.subset hz)⟩
theorem Names.reverse {ns:List Str}(h:Names ns):Names ns.reverse:=h.perm (List.reverse_perm _)
theorem Names.turn {ns:List Str}(h:Names ns)(t n:Nat):Names ((ns.drop t++ns.take t).take n):=
 Names.sublist (ns:=ns.drop t++ns.take t) (h.perm (List.perm_append_comm.trans (by rw[List.take_append_drop]))) (List.take_sublist _ _)
theorem G0 {xs:List V}{t:Int}(h0:0<=t)(h1:t<=xs.length):K8 xs (some t) none=xs.drop t.toNat:=by
 have e:HT.sIx xs.length 0 (some t)=t.toNat:=by unfold HT.sIx;simp[show ¬ t<0 by omega];omega
 unfold K8
 rw[e]
 have e2:HT.sIx xs.length xs.length none=xs.length:=rfl
 rw[e2]
 exact List.take_of_length_le (by rw[List.length_drop];omega)
theorem Ed {xs:List V}{t:Int}(h0:0<=t):K8 xs none (some t)=xs.take t.toNat:=by
 have e:HT.sIx xs.length xs.length (some t)=min t.toNat xs.length:=by unfold HT.sIx;simp[show ¬ t<0 by omega]
 unfold K8
 rw[e]
 have e2:HT.sIx xs.length 0 none=0:=rfl
 rw[e2,List.drop_zero,Nat.sub_zero,Nat.min_comm]
 rw[<- List.take_take]
 exact List.take_of_length_le (by rw[List.length_take];omega)
theorem Dy {lo:Int} {n i:Nat} {x:V} (h:((List.range n).map fun(i:Nat)=>V.int (lo+(i:Int)))[i]? = some x):x = .int (lo+(i:Int))/\i<n:=by
 rw[List.getElem?_map] at h
 cases e:(List.range n)[i]? with
 | none=>rw[e] at h;cases h
 | some j=>
   rw[e] at h
   cases h
   have e1:=List.getElem?_eq_some_iff.mp e
   obtain⟨h1,h2⟩:=e1
   rw[List.length_range] at h1
   rw[List.getElem_range] at h2
   subst h2
   exact⟨rfl,h1⟩
def fI (F:Int->V):V->V
 | .int k=>F k
 | v=>v
theorem Nx {lo:Int}{n:Nat}{F:Int->V}{G:Nat->Str}(h:∀ k<n,F (lo+(k:Int)) = .str (G k)):((List.range n).map fun(i:Nat)=>V.int (lo+(i:Int))).map (fI F)=((List.range n).map G).map V.str:=by
 rw[List.map_map,List.map_map]
 refine List.map_congr_left fun k hk=>?_
 exact h k (List.mem_range.mp hk)
theorem Pc:LL.length<=sizeLine:=by rw[ae8,sizeLine_eq];omega
theorem Rg {ns:List Str}(h:Names ns){k:Int}:∃ ms,Rb (ns.map V.str) k=ms.map V.str/\Names ms/\ms.length=ns.length:=by
 unfold Rb
 split
 . exact⟨ns,rfl,h,rfl⟩
 exact⟨ns.reverse,by rw[List.map_reverse],h.reverse,List.length_reverse ..⟩
theorem ExtBut.off {d q:Addr}{H H1 H2:Hp}(e:ExtBut d H H1)(hq:H q=none)(e2:ExtBut q H1 H2):ExtBut d H H2:=fun b o n h=>e2 b o (ne_of_none h hq) (e b o n h)
theorem Same.off {q:Addr}{H H1 H2:Hp}(e:Same H H1)(hq:H q=none)(e2:ExtBut q H1 H2):Same H H2:=fun b o h=>e2 b o (ne_of_none h hq) (e b o h)
def Up (ls:List Str)(ps:List (Str×Str)):Prop:=∀ p∈ps,∃ i j:Nat,i<j/\ls[i]? = some p.1/\ls[j]? = some p.2
theorem Up.nil {ls:List Str}:Up ls []:=fun _ h=>by cases h
theorem Up.append {ls:List Str}{ps qs:List (Str×Str)}(h:Up ls ps)(g:Up ls qs):Up ls (ps++qs):=fun p hp=>by
 rcases List.mem_append.mp hp with hp | hp
 . exact h p hp
 exact g p hp
theorem Up.one {ls:List Str}{x y:Str}{i j:Nat}(h:i<j)(hx:ls[i]? = some x)(hy:ls[j]? = some y):Up ls [(x,y)]:=fun p hp=>by
 have:p=(x,y):=by simpa using hp
 subst this
 exact⟨i,j,h,hx,hy⟩
theorem Up.sub {ls:List Str}{ps qs:List (Str×Str)}(h:Up ls ps)(s:∀ p∈qs,p∈ps):Up ls qs:=fun p hp=>h p (s p hp)
theorem str_at? {ls:List Str}{i:Int}(h0:0<=i)(h1:i<ls.length):∃ z,ls[i.toNat]? = some z/\atI (ls.map V.str) i=some (.str z)/\atI ls i=some z:=by
 have h2:i.toNat<ls.length:=by omega
 refine⟨ls[i.toNat],List.getElem?_eq_getElem h2,?_,?_⟩
 . have:=Bj (xs:=ls.map V.str) (j:=i.toNat) (v:=.str ls[i.toNat]) (by rw[List.getElem?_map,List.getElem?_eq_getElem h2];rfl)
   rwa[Int.toNat_of_nonneg h0] at this
 have:=Bj (List.getElem?_eq_getElem h2)
 rwa[Int.toNat_of_nonneg h0] at this
theorem Kf {α:Type}:∀(us:List α) (k:Nat) (y:α),us[k]? = some y->(y :: us.eraseIdx k).Perm us
 | [],k,y,h=>by simp at h
 | u :: us,0,y,h=>by
   have:u=y:=by simpa using h
   subst this
   exact List.Perm.refl _
 | u :: us,k+1,y,h=>by
   have ih:=Kf us k y (by simpa using h)
   exact(List.Perm.swap u y _).trans (ih.cons u)
theorem Xp {α:Type}{us:List α}{k:Nat}{y:α}(h:us[k]? = some y)(vs:List α):(vs++[y]++us.eraseIdx k).Perm (vs++us):=by
 rw[List.append_assoc]
 exact List.Perm.append_left vs (Kf us k y h)
theorem Oo {α:Type}{l:List α}{i:Nat}{x y:α}(h:l[i]? = some x):l.getD i y=x:=by rw[List.getD_eq_getElem?_getD,h];rfl
theorem Vn {α:Type}(as:List α)(f:α->Str×Str):as.map (fun a=>prD (f a))=(as.map f).map prD:=by rw[List.map_map];rfl
theorem Ee {α:Type}{l:List α}{i:Nat}{y:α}(h:i<l.length):l[i]? = some (l.getD i y):=by rw[List.getD_eq_getElem?_getD,List.getElem?_eq_getElem h];rfl
inductive Way (ps:List (Str×Str)):Str->Str->Prop
 | one {x y:Str}:(x,y)∈ps->Way ps x y
 | cons {x z y:Str}:(x,z)∈ps->Way ps z y->Way ps x y
theorem Way.trans {ps:List (Str×Str)}{x y z:Str}(h:Way ps x y)(g:Way ps y z):Way ps x z:=by
 induction h with
 | one e=>exact .cons e g
 | cons e _ ih=>exact .cons e (ih g)
theorem Way.left {ps:List (Str×Str)}{x y:Str}(h:Way ps x y):x∈ps.map (·.1):=by
 cases h with
 | one e=>exact List.mem_map.mpr ⟨_,e,rfl⟩
 | cons e _=>exact List.mem_map.mpr ⟨_,e,rfl⟩
theorem Way.right {ps:List (Str×Str)}{x y:Str}(h:Way ps x y):y∈ps.map (·.2):=by
 induction h with
 | one e=>exact List.mem_map.mpr ⟨_,e,rfl⟩
 | cons _ _ ih=>exact ih
theorem Way.mono {ps qs:List (Str×Str)}(h:∀ p∈ps,p∈qs){x y:Str}(g:Way ps x y):Way qs x y:=by
 induction g with
 | one e=>exact .one (h _ e)
 | cons e _ ih=>exact .cons (h _ e) ih
theorem Up.lt {ls:List Str}(hn:ls.Nodup){ps:List (Str×Str)}(h:Up ls ps){x y:Str}(g:Way ps x y):∃ i j:Nat,i<j/\ls[i]? = some x/\ls[j]? = some y:=by
 induction g with
 | one e=>exact h _ e
 | cons e _ ih=>
   obtain⟨i,j,h1,h2,h3⟩:=h _ e
   obtain⟨i',j',g1,g2,g3⟩:=ih
   have e:j=i':=by
    obtain⟨a,b⟩:=List.getElem?_eq_some_iff.mp h3
    obtain⟨c,d⟩:=List.getElem?_eq_some_iff.mp g2
    exact(List.getElem_inj hn).mp (b.trans d.symm)
   exact⟨i,j',by omega,h2,g3⟩
theorem Up.irrefl {ls:List Str}(hn:ls.Nodup){ps:List (Str×Str)}(h:Up ls ps){x:Str}:¬ Way ps x x:=fun g=>by
 obtain⟨i,j,h1,h2,h3⟩:=h.lt hn g
 obtain⟨a,b⟩:=List.getElem?_eq_some_iff.mp h2
 obtain⟨c,d⟩:=List.getElem?_eq_some_iff.mp h3
 have:=(List.getElem_inj hn).mp (b.trans d.symm)
 omega
theorem Up.mem {ls:List Str}{ps:List (Str×Str)}(h:Up ls ps){p:Str×Str}(hp:p∈ps):p.1∈ls/\p.2∈ls:=by
 obtain⟨i,j,_,h2,h3⟩:=h p hp
 exact⟨List.mem_of_getElem? h2,List.mem_of_getElem? h3⟩
structure Half (ns:List Str)(ps:List (Str×Str)):Prop where
 names:Names ns
 few:ns.length<=10
 le:ps.length<=60
 line:∃ ls:List Str,ls.Perm ns/\Up ls ps
theorem Half.irrefl {ns:List Str}{ps:List (Str×Str)}(h:Half ns ps){x:Str}:¬ Way ps x x:=by
 obtain⟨ls,h1,h2⟩:=h.line
 exact h2.irrefl (h1.nodup_iff.mpr h.names.1)
theorem Half.mem {ns:List Str}{ps:List (Str×Str)}(h:Half ns ps){p:Str×Str}(hp:p∈ps):p.1∈ns/\p.2∈ns:=by
 obtain⟨ls,h1,h2⟩:=h.line
 have:=h2.mem hp
 exact⟨h1.mem_iff.mp this.1,h1.mem_iff.mp this.2⟩
theorem al5 {z:Str}(h:Qv z=true):PyData.strOk z=true/\z.cps.size<=8:=by
 unfold Qv at h
 simp only[Bool.and_eq_true,decide_eq_true_eq] at h
 refine⟨?_,h.1.2⟩
 unfold PyData.strOk
 rw[<- Array.all_toList,List.all_eq_true]
 intro c hc
 have:=List.all_eq_true.mp h.2 c hc
 unfold Hr at this
 simp only[Bool.and_eq_true,decide_eq_true_eq] at this
 exact decide_eq_true (by omega)
theorem Ef {α:Type}[DecidableEq α]:∀ {xs ys:List α},xs.Nodup->(∀ x∈xs,x∈ys)->xs.length<=ys.length
 | [],_,_,_=>Nat.zero_le _
 | x :: xs,ys,h,hs=>by
   rw[List.nodup_cons] at h
   have hx:x∈ys:=hs x List.mem_cons_self
   have ih:=Ef (xs:=xs) (ys:=ys.erase x) h.2 fun z hz=>by
    refine(List.mem_erase_of_ne ?_).mpr (hs z (List.mem_cons_of_mem _ hz))
    intro e
    subst e
    exact h.1 hz
   rw[List.length_erase_of_mem hx] at ih
   have:0<ys.length:=List.length_pos_of_mem hx
   rw[List.length_cons]
   omega
section
variable {c:TT}{tb:TS}{D:Ka}{σ:St}{H:Hp}
end
section
variable {X:Cx}{K:PySem.W.Frag}
def Oz:V->List V->Hp->VK->Prop:=fun x vs H Q=>∃ d o kvs more,x = .ref d/\vs=[.ref o]/\d≠o/\H d=some (.dK kvs)/\H o=some (.dK more)/\kvs.length+more.length<=1000000/\Q .non (upd H d (.dK (Dw kvs more)))
theorem Tr:MtM X "dict.update" Oz:=by
 intro pins s σ H x vs v us Q I rx rv h
 obtain⟨d,o,kvs,more,rfl,rfl,hdo,hD,hO,hz,q⟩:=h
 cases rx
 obtain⟨u,rfl,ru⟩:=rv.one
 cases ru
 obtain⟨z1,hd1,vs1,rel1,dd1⟩:=Mb I.hok hD
 obtain⟨z2,hd2,vs2,rel2,dd2⟩:=Mb I.hok hO
 have l1:kvs.length=vs1.length:=rel1.length
 have l2:more.length=vs2.length:=rel2.length
 refine call_meetsIn F.slot_dict_update dd1.typeIs F.entry_dict_update (F.args_dict_update_2 _ _) (meets_dict_update (Ap X.prog X.w) d o hdo hd2) ⟨vs1,vs2,dd1,dd2,Ac (by omega),fun h' dd' _ hs=>?_⟩
 have he:∃ q,h'.get? d=some q:=let ⟨q,_,_,hq,_⟩:=dd';⟨q,hq⟩
 refine⟨.non,_,L4 I (by rw[hD];exact True.intro) hs he (Qd ?_ hd1 (KV.merge rel2 rel1) dd'),rfl,q⟩
 have:=Dq more kvs
 exact Ac (by omega)
end
theorem Jh:entryFor table "dict.update.loop" = some Builtin.«dict.update.loop»:=entryFor_of_tree (by kernel_rfl)
theorem Es:plainId "dict.update.loop" = true:=by decide +kernel
theorem M8:typeLookup (.type "list") "keys" = pure none:=by rw[typeLookup_type,builtinLookup_eq_fast];kernel_rfl
section
variable {prog:Program}{w:World}{κ:Type}[DecidableEq κ]{knd:KeyKind prog w κ}{A:Around}{E:Value->Shared->Prop}{s:Shared}
theorem Wm {a:Addr}{xs:Array Value}{k:Nat}{Q:Option Value->Shared->Prop}(hx:s.heap.get? a=some { cls:=.type "list",data:=.seq xs k })(hA:A.handled=none)
  (h:∀ h' tk,(∀ b o,s.heap.get? b=some o->h'.get? b=some o)->Q none { s with heap:=h',toks:=tk }):wpAny (model prog w) A (getAttr? (.ref a) "keys") Q E s:=by
 obtain⟨hp,g,d,tk,os⟩:=s
 have hT:∀ tk',(⟨hp,g,d,tk',os⟩:Shared).TypeIs (.ref a) "list":=fun _=>⟨_,hx,rfl⟩
 have f1:=sub_AttributeError
 have f3:=F.slot_list_getattribute.lookup
 have f4:=F.slot_list_getattribute.bind (.ref a)
 have f5:=am_list_getattr_none
 unfold getAttr? getAttrBy? getAttrBy
 repeat (any_goals (first | assumption | exact hT _ | ((with_reducible show wpAny _ _ (call (Value.builtin "list.__getattribute__") _ _) _ _ _);refine call_meets F.slot_list_getattribute (hT _) am_entry_list_getattribute (F.args_list_getattribute_2 _ _) (meets_getattribute_miss_list a xs k #[] "keys" _ M8 (by decide +kernel) (by rw[sizeLine_eq];decide +kernel)) ⟨hx,hA,fun h' tk' e hx'=>?_⟩) | wp_step))
 obtain⟨t',u',he⟩:=hx'.there
 show wpAny _ _ (getattributeRaised _ _ _ _ _ _ _) _ _ _
 unfold getattributeRaised
 repeat (any_goals (first | assumption | wp_step))
 exact h _ _ hx'.keeps
theorem R6 {t:Addr}{k v:Value}{Q:List Value->Shared->Prop}(ht:IsTup s.heap t #[k,v])(h:Q [k,v] s):wpAny (model prog w) A (Builtin.Dict.pairItems (.ref t)) Q E s:=by
 obtain⟨o,ho,hc,n,hd⟩:=ht
 unfold Builtin.Dict.pairItems
 refine wpAny_bind (wpAny_typeOf ⟨o,ho,hc⟩ ?_)
 rw[if_pos (by decide)]
 refine wpAny_bind (wpAny_seqItems ho hd ?_)
 exact wpAny_pure h
theorem Vz {I D l:Addr}{items:Array Value}(hh:A.in1.handled=none)(hne:l≠I)(hDI:D≠I)(hDl:D≠l)(pk:List (κ×Value×Addr×Value))(hlen:pk.length=items.size)(hz:items.size<=1000000) :
  ∀(j i:Nat) (s:Shared) (R:Result->Shared->Prop),items.size-i=j->i<=items.size->s.heap.IsListIter I l i->s.heap.IsList l items ->
   s.heap.DictOf knd D (merged [] ((pk.take i).map fun p=>(p.1,p.2.1))) ->
   (∀(n:Nat) (p:κ×Value×Addr×Value),pk[n]? = some p->items[n]? = some (Value.ref p.2.2.1)/\p.2.2.1≠I/\p.2.2.1≠D/\IsTup s.heap p.2.2.1 #[p.2.2.2,p.2.1]/\knd.is p.1 p.2.2.2=true) ->
   (∀ h' tk,h'.DictOf knd D (merged [] (pk.map fun p=>(p.1,p.2.1)))->(∀ b o,b≠D->b≠I->s.heap.get? b=some o->h'.get? b=some o)->R (.ok (.ret .none)) { s with heap:=h',toks:=tk }) ->
   codeAny (model prog w) A (.builtin "dict.update.loop" ⟨[.ref D,.ref I,.int i 0,.none],[]⟩) R s:=by
 have W:=Walks.list (prog:=prog) (w:=w) hh I l hne items
 intro j
 induction j with
 | zero=>
   intro i s R hj hi hI hL hD hP hR
   have hin:i=items.size:=by omega
   subst hin
   refine codeAny_builtin Jh ?_
   rw[Around.under_plainId Es _]
   show wpAny _ A.in1 (pyNext (.ref I) >>= _) _ _ s
   refine wpAny_bind (W.done s _ _ ⟨hI,hL⟩ fun h' tk hm=>?_)
   show wpAny _ A.in1 (Builtin.Dict.addKeywords D [] >>= _) _ _ _
   refine wpAny_bind (wpAny_pure (wpAny_pure (hR h' tk ?_ fun b o hb hb' e=>hm b o (by simpa using hb') e)))
   rw[<- hlen,List.take_length] at hD
   obtain⟨o,es,ep,ho,r⟩:=hD
   exact⟨o,es,ep,hm D o (by simpa using hDI) ho,r⟩
 | succ j ih=>
   intro i s R hj hi hI hL hD hP hR
   have hlt:i<items.size:=by omega
   obtain⟨p,hp⟩:∃ p,pk[i]? = some p:=⟨pk[i]'(by omega),List.getElem?_eq_getElem _⟩
   obtain⟨q1,q2,q3,q4,q5⟩:=hP i p hp
   refine codeAny_builtin Jh ?_
   rw[Around.under_plainId Es _]
   show wpAny _ A.in1 (pyNext (.ref I) >>= _) _ _ s
   refine wpAny_bind (W.item i s _ _ hlt ⟨hI,hL⟩ fun v h' tk hv hst hm=>?_)
   have hv':v = .ref p.2.2.1:=by
    have hv2:items[i]? = some v:=hv
    rw[q1] at hv2
    exact(Option.some.inj hv2).symm
   subst hv'
   have ht':IsTup h' p.2.2.1 #[p.2.2.2,p.2.1]:=by
    obtain⟨o,ho,r⟩:=q4
    exact⟨o,hm _ o (by simpa using q2) ho,r⟩
   have hD':h'.DictOf knd D (merged [] ((pk.take i).map fun p=>(p.1,p.2.1))):=by
    obtain⟨o,es,ep,ho,r⟩:=hD
    exact⟨o,es,ep,hm D o (by simpa using hDI) ho,r⟩
   show wpAny _ A.in1 (holding [Value.ref p.2.2.1] _ >>= _) _ _ _
   refine wpAny_bind (wpAny_holding ?_)
   refine wpAny_bind (wpAny_tryCatch (R6 ht' ?_))
   show wpAny _ A.in1 (holding [p.2.2.2,p.2.1] (dictSet D p.2.2.2 p.2.1)) _ _ _
   refine wpAny_holding (wpAny_dictSet_pairs q5 hD' (fun h'' hD'' hs=>?_) ?_)
   . refine wpAny_pure ⟨plainId_quiet Es _,?_⟩
     have hkeep:∀ b o,b≠D->b≠I->s.heap.get? b=some o->h''.get? b=some o:=fun b o h1 h2 e=>(hs.2 b h1).trans (hm b o (by simpa using h2) e)
     refine ih (i+1) _ R (by omega) hlt ?_ ?_ ?_ (fun n p' hp'=>?_) fun h3 tk3 hD3 hk3=>hR h3 tk3 hD3 fun b o h1 h2 e=>hk3 b o h1 h2 (hkeep b o h1 h2 e)
     . exact hst.1.at fun o e=>(hs.2 I (Ne.symm hDI)).trans e
     . exact hst.2.at fun o e=>(hs.2 l (Ne.symm hDl)).trans e
     . have e:merged [] ((pk.take (i+1)).map fun p=>(p.1,p.2.1))=stored (merged [] ((pk.take i).map fun p=>(p.1,p.2.1))) p.1 p.2.1:=by
        rw[List.take_add_one,hp]
        unfold merged
        rw[List.map_append,List.foldl_append]
        rfl
       rw[e]
       exact hD''
     obtain⟨a1,a2,a3,⟨o,ho,r⟩,a5⟩:=hP n p' hp'
     exact⟨a1,a2,a3,⟨o,hkeep _ o a3 a2 ho,r⟩,a5⟩
   refine Nat.le_trans (merged_length_le _ _) (Ac ?_)
   rw[List.length_map,List.length_take]
   simp
   omega
theorem Iu {l:Addr}{items:Array Value}{n:Nat}{Q:Value->Shared->Prop}(hl:s.heap.get? l=some { cls:=.type "list",data:=.seq items n })(hA:A.handled=none)(pk:List (κ×Value×Addr×Value))(hlen:pk.length=items.size)(hz:items.size<=1000000)
  (hP:∀(n:Nat) (p:κ×Value×Addr×Value),pk[n]? = some p->items[n]? = some (Value.ref p.2.2.1)/\IsTup s.heap p.2.2.1 #[p.2.2.2,p.2.1]/\knd.is p.1 p.2.2.2=true)
  (h:∀ h' tk,h'.DictOf knd s.heap.objs.size (merged [] (pk.map fun p=>(p.1,p.2.1)))->(∀ b o,s.heap.get? b=some o->h'.get? b=some o)->Q (.ref s.heap.objs.size) { s with heap:=h',toks:=tk }) :
  wpAny (model prog w) A (call (.type "dict") [.ref l]) Q E s:=by
 refine callType_codes (Q₁:=fun obj s₁=>obj = .ref s.heap.objs.size/\s₁={ s with heap:=s.heap.push { cls:=.type "dict",data:=.dict #[] } }) F.kt_called_dict (F.kt_typeCall_dict_1 _) F.entry_dict_init (kt_code_dict_new _ ⟨rfl,rfl⟩) ?_
 rintro obj s₁ ⟨rfl,rfl⟩
 have hnew:(s.heap.push { cls:=.type "dict",data:=.dict #[] }).DictOf knd s.heap.objs.size []:=Heap.DictOf.new s.heap
 have hl':(s.heap.push { cls:=.type "dict",data:=.dict #[] }).get? l=some { cls:=.type "list",data:=.seq items n }:=Heap.get?_push_of_some _ hl
 have hll:l<s.heap.objs.size:=Heap.lt_size hl
 refine⟨hnew.typeIs,F.args_dict_init_2 _ _,?_⟩
 unfold Builtin.«dict.__init__»
 refine wpAny_bind ?_
 unfold Builtin.Dict.selfAndRest
 refine wpAny_bind (wpAny_notOrdered_dict hnew.typeIs ?_)
 show wpAny _ _ (pure (s.heap.objs.size,[Value.ref l])) _ _ _
 refine wpAny_pure ?_
 show wpAny _ _ (Builtin.Dict.updateFrom "dict.__init__" s.heap.objs.size (.ref l) [] .none) _ _ _
 unfold Builtin.Dict.updateFrom
 refine wpAny_bind (wpAny_typeOf ⟨_,hl',rfl⟩ ?_)
 rw[if_pos (by decide)]
 refine wpAny_bind (Wm hl' (by simpa using hA) fun h1 tk1 hk1=>?_)
 have hl1:h1.get? l=some { cls:=.type "list",data:=.seq items n }:=hk1 _ _ hl'
 rw[if_pos (show(none:Option Value).isNone=true from rfl)]
 have hD1:h1.DictOf knd s.heap.objs.size []:=by
  obtain⟨o,es,ep,ho,r⟩:=hnew
  exact⟨o,es,ep,hk1 _ _ ho,r⟩
 have hsz:s.heap.objs.size<h1.objs.size:=by
  obtain⟨o,es,ep,ho,r⟩:=hD1
  exact Heap.lt_size ho
 refine wpAny_bind (wpAny_rule ?_)
 have hL1:h1.IsList l items:=⟨_,hl1,rfl,n,rfl⟩
 refine wpAny_bind (wpAny_pyIter_list hL1 ?_)
 refine wpAny_pure ⟨plainId_quiet Es _,?_⟩
 have kp:∀ b o,s.heap.get? b=some o->(h1.push { cls:=.type "list_iterator",data:=.fields #[.ref l,.int 0 0] }).get? b=some o:=fun b o e=>Heap.get?_push_of_some _ (hk1 _ _ (Heap.get?_push_of_some _ e))
 refine Vz (knd:=knd) (A:=A.in1) (I:=h1.objs.size) (D:=s.heap.objs.size) (l:=l) (items:=items) (by simpa using hA) (Nat.ne_of_lt (Nat.lt_trans hll hsz)) (Nat.ne_of_lt hsz) (Nat.ne_of_gt hll) pk hlen hz items.size 0 _ _ (Nat.sub_zero _) (Nat.zero_le _) ⟨_,Heap.get?_push_size _ rfl,rfl,rfl⟩ (hL1.push _) ?_ (fun m p hp=>?_) fun h' tk hD hk=>?_
 . exact hD1.push _
 . obtain⟨a1,⟨o,ho,r⟩,a3⟩:=hP m p hp
   have hlt:=Heap.lt_size ho
   exact⟨a1,Nat.ne_of_lt (Nat.lt_trans hlt hsz),Nat.ne_of_lt hlt,⟨o,kp _ _ ho,r⟩,a3⟩
 refine⟨rfl,h h' tk hD fun b o e=>?_⟩
 have hlt:=Heap.lt_size e
 exact hk b o (Nat.ne_of_lt hlt) (Nat.ne_of_lt (Nat.lt_trans hlt hsz)) (kp b o e)
end
def PrsK (K:PySem.W.Frag)(H:Hp):List (Key×V)->List V->Prop
 | [],ys=>ys=[]
 | kv :: r,ys=>∃ t ys',ys = .ref t :: ys'/\SqT K H t [kV kv.1,kv.2]/\PrsK K H r ys'
theorem PrsK.pk {X:Cx}{pins:List (Addr×Obj)}{σ:St}{H:Hp}{s:Shared}(I:Inv X pins σ H s):∀(kvs:List (Key×V)) (ys:List V) (its:List Value),PrsK X.K H kvs ys->Vals ys its ->
  ∃ pk:List (Key×Value×Addr×Value),pk.length=its.length/\KV kvs (pk.map fun p=>(p.1,p.2.1))/\∀(n:Nat) (p:Key×Value×Addr×Value),pk[n]? = some p->its[n]? = some (Value.ref p.2.2.1)/\IsTup s.heap p.2.2.1 #[p.2.2.2,p.2.1]/\(Ap X.prog X.w).is p.1 p.2.2.2=true
 | [],ys,its,h,v=>by
   have h':ys=[]:=h
   subst h'
   cases v
   exact ⟨[],rfl,.nil,fun n p hp=>by simp at hp⟩
 | kv :: r,ys,its,h,v=>by
   obtain⟨t,ys',rfl,h2,h3⟩:=h
   cases v with
   | cons v1 v2=>
     obtain⟨pk,l1,l2,l3⟩:=PrsK.pk I r ys' _ h3 v2
     cases v1
     obtain ⟨its2,rv,ht,_⟩:=I.tuple h2
     obtain⟨key,val,rfl,a1,a3⟩:=Vals.two rv
     refine⟨(kv.1,val,t,key) :: pk,by simp[l1],.cons ⟨rfl,a3⟩ l2,fun n p hp=>?_⟩
     cases n with
     | zero=>
       have:p=(kv.1,val,t,key):=(Option.some.inj (by simpa using hp)).symm
       subst this
       exact⟨rfl,ht,M6 a1⟩
     | succ n=>exact l3 n p (by simpa using hp)
section
variable {X:Cx}{K:PySem.W.Frag}
def Tf (K:PySem.W.Frag):List V->Hp->VK->Prop:=fun xs H Q=>∃ l ys kvs,xs=[V.ref l]/\H l=some (.lst ys)/\PrsK K H kvs ys/\ys.length<=1000000/\kvs.length<=1000000/\∀ p,H p=none->Q (.ref p) (upd H p (.dK (Dw [] kvs)))
theorem Rk (hr:X.A.handled=none):CallR X (.type "dict") (Tf X.K):=by
 intro pins s σ H xs us Q I rv h
 obtain⟨l,ys,kvs,rfl,hl,hp,hz,hz2,q⟩:=h
 obtain⟨u,rfl,ru⟩:=rv.one
 cases ru
 obtain⟨z,its,n,r,hlen,e⟩:=I.lstM hl
 obtain⟨pk,l1,l2,l3⟩:=PrsK.pk I kvs ys its hp r
 refine Iu (knd:=Ap X.prog X.w) e hr pk (by simpa using l1) (by simp;omega) (fun n p hp=>?_) fun h' tk hD hk=>?_
 . obtain⟨a1,a2,a3⟩:=l3 n p hp
   exact⟨by simpa using a1,a2,a3⟩
 refine⟨.ref s.heap.objs.size,_,I.laid hk (Nat.le_refl _) (Qd ?_ ?_ (KV.merge l2 .nil) hD),rfl,q _ (I.hok.fresh (Nat.le_refl _))⟩
 . have:=Dq kvs []
   exact Ac (by simpa using Nat.le_trans this (by simpa using hz2))
 exact beq_eq_false_iff_ne.mpr (Nat.ne_of_gt I.big)
theorem Hj (hr:X.A.handled=none)(hK:X.K=K:=by ac_nf):CallR X (.type "dict") (Tf K):=hK ▸ Rk hr
end
def Lk (ns:List Str)(as:List Addr):List (Key×V):=(ns.zip as).map fun p=>(Sum.inr p.1,V.ref p.2)
def Gn (ks:List Str):List (Key×V):=ks.map fun y=>(Sum.inr y,V.bl true)
theorem Eu:∀ {ns:List Str} {as:List Addr} {i:Nat} {z:Str} {a:Addr},ns.Nodup->ns[i]? = some z->as[i]? = some a->Cg (Lk ns as) (Sum.inr z:Key)=some (.ref a)
 | [],_,i,_,_,_,h,_=>by simp at h
 | n :: ns,[],i,_,_,_,_,h=>by simp at h
 | n :: ns,b :: as,0,z,a,_,h,g=>by
   simp at h g
   subst h g
   exact Ax rfl
 | n :: ns,b :: as,i+1,z,a,hn,h,g=>by
   rw[List.nodup_cons] at hn
   have h':ns[i]? = some z:=by simpa using h
   have ne:¬ (Sum.inr n:Key)=Sum.inr z:=by
    intro e
    have e2:n=z:=by injection e
    subst e2
    exact hn.1 (List.mem_of_getElem? h')
   show Cg ((Sum.inr n,V.ref b) :: Lk ns as) _=_
   rw[Aw ne]
   exact Eu hn.2 h' (by simpa using g)
theorem Lm (y:Str):∀ ks:List Str,Cg (Gn ks) (Sum.inr y:Key)=if y∈ks then some (.bl true) else none
 | []=>by simp[Gn,X5]
 | k :: ks=>by
   show Cg ((Sum.inr k,V.bl true) :: Gn ks) _=_
   by_cases e:k=y
   . subst e
     rw[Ax rfl,if_pos List.mem_cons_self]
   rw[Aw (by intro q;injection q with q;exact e q),Lm y ks]
   have:(y∈k :: ks)↔y∈ks:=by simp[Ne.symm e]
   simp only[this]
def Yn (ks:List Str)(y:Str):List Str:=if y∈ks then ks else ks++[y]
theorem mem_addK {ks:List Str}{y z:Str}:z∈Yn ks y↔z∈ks\/z=y:=by
 unfold Yn
 split
 . constructor
   . exact .inl
   rintro(h | rfl)
   . exact h
   assumption
 simp
theorem Kc {ks:List Str}{y:Str}(h:ks.Nodup):(Yn ks y).Nodup:=by
 unfold Yn
 split
 . exact h
 rename_i hy
 rw[List.nodup_append]
 refine⟨h,by simp,fun a ha b hb e=>?_⟩
 have:b=y:=by simpa using hb
 subst this
 subst e
 exact hy ha
theorem Zj (y:Str)(ks:List Str):((Gn ks).any fun kv=>decide (kv.1=(Sum.inr y:Key)))=decide (y∈ks):=by
 induction ks with
 | nil=>simp[Gn]
 | cons k ks ih=>
   show(decide ((Sum.inr k:Key)=Sum.inr y)||(Gn ks).any _)=_
   rw[ih]
   by_cases e:k=y
   . subst e;simp
   have e':¬ (Sum.inr k:Key)=Sum.inr y:=by intro q;injection q with q;exact e q
   simp[e',Ne.symm e]
theorem Uz (ks:List Str)(y:Str):Dv (Gn ks) (Sum.inr y:Key) (.bl true)=Gn (Yn ks y):=by
 unfold Dv Yn
 rw[Zj]
 by_cases h:y∈ks
 . rw[if_pos (decide_eq_true h),if_pos h]
   unfold Gn
   rw[List.map_map]
   refine List.map_congr_left fun k _=>?_
   show(if(Sum.inr k:Key)=Sum.inr y then(Sum.inr k,V.bl true) else(Sum.inr k,V.bl true))=_
   split<;>rfl
 rw[if_neg (by simpa using h),if_neg h]
 unfold Gn
 rw[List.map_append]
 rfl
def Jk (ks ms:List Str):List Str:=ms.foldl Yn ks
theorem M3:∀(ms ks:List Str),Dw (Gn ks) (Gn ms)=Gn (Jk ks ms)
 | [],ks=>rfl
 | m :: ms,ks=>by
   show Dw (Dv (Gn ks) (Sum.inr m) (.bl true)) (Gn ms)=_
   rw[Uz,M3 ms]
   rfl
theorem mem_addAll:∀ {ms ks:List Str} {z:Str},z∈Jk ks ms↔z∈ks\/z∈ms
 | [],ks,z=>by simp[Jk]
 | m :: ms,ks,z=>by
   show z∈Jk (Yn ks m) ms↔_
   rw[mem_addAll,mem_addK,List.mem_cons,or_assoc]
theorem Ht:∀ {ms ks:List Str},ks.Nodup->(Jk ks ms).Nodup
 | [],ks,h=>h
 | m :: ms,ks,h=>Ht (ms:=ms) (Kc h)
theorem Ol (ks:List Str):(Gn ks).length=ks.length:=by simp[Gn]
theorem Gw:∀(kvs acc:List (Key×V)),(kvs.map (·.1)).Nodup->(∀ k∈kvs,∀ q∈acc,q.1≠k.1)->Dw acc kvs=acc++kvs
 | [],acc,_,_=>by simp[Dw]
 | k :: kvs,acc,hn,hd=>by
   show Dw (Dv acc k.1 k.2) kvs=_
   have e:Dv acc k.1 k.2=acc++[k]:=by
    unfold Dv
    have:¬ (acc.any fun kv=>decide (kv.1=k.1))=true:=by
     rw[List.any_eq_true]
     rintro⟨q,hq,e⟩
     exact hd k List.mem_cons_self q hq (of_decide_eq_true e)
    rw[if_neg this]
   rw[List.map_cons,List.nodup_cons] at hn
   rw[e,Gw kvs (acc++[k]) hn.2 fun x hx q hq=>?_,List.append_assoc]
   . rfl
   rcases List.mem_append.mp hq with hq | hq
   . exact hd x (List.mem_cons_of_mem _ hx) q hq
   have:q=k:=by simpa using hq
   subst this
   intro e
   exact hn.1 (List.mem_map.mpr ⟨x,hx,e.symm⟩)
structure Tab (H:Hp)(r:Addr)(ns:List Str)(as:List Addr)(R:Str->Str->Prop):Prop where
 len:as.length=ns.length
 nd:as.Nodup
 nr:r∉as
 top:H r=some (.dK (Lk ns as))
 row:∀(i:Nat) (z:Str) (a:Addr),ns[i]? = some z->as[i]? = some a->∃ ks:List Str,H a=some (.dK (Gn ks))/\ks.Nodup/\(∀ y∈ks,y∈ns)/\∀ y,y∈ks↔R z y
theorem Tab.same {H H':Hp}{r:Addr}{ns:List Str}{as:List Addr}{R:Str->Str->Prop}(h:Tab H r ns as R)(e:Same H H'):Tab H' r ns as R:=
 ⟨h.len,h.nd,h.nr,e _ _ h.top,fun i z a hz ha=>let ⟨ks,h1,h2⟩:=h.row i z a hz ha;⟨ks,e _ _ h1,h2⟩⟩
theorem Tab.congr {H:Hp}{r:Addr}{ns:List Str}{as:List Addr}{R R':Str->Str->Prop}(h:Tab H r ns as R)(e:∀ z∈ns,∀ y,R z y↔R' z y):Tab H r ns as R':=
 ⟨h.len,h.nd,h.nr,h.top,fun i z a hz ha=>let ⟨ks,h1,h2,h3,h4⟩:=h.row i z a hz ha;⟨ks,h1,h2,h3,fun y=>(h4 y).trans (e z (List.mem_of_getElem? hz) y)⟩⟩
theorem Tab.put {H H':Hp}{r b:Addr}{ns:List Str}{as:List Addr}{R R':Str->Str->Prop}(h:Tab H r ns as R)(e:ExtBut b H H'){j:Nat}{x:Str}(hn:ns.Nodup)(hj:ns[j]? = some x)(hb:as[j]? = some b){ks:List Str}
  (hk:H' b=some (.dK (Gn ks))) (k1:ks.Nodup) (k2:∀ y∈ks,y∈ns) (k3:∀ y,y∈ks↔R' x y) (k4:∀ z∈ns,z≠x->∀ y,R z y↔R' z y):Tab H' r ns as R':=by
 refine⟨h.len,h.nd,h.nr,e _ _ (fun q=>h.nr (q ▸ List.mem_of_getElem? hb)) h.top,fun i z a hz ha=>?_⟩
 by_cases hij:i=j
 . subst hij
   rw[hz] at hj
   cases hj
   rw[ha] at hb
   cases hb
   exact⟨ks,hk,k1,k2,k3⟩
 obtain⟨ms,h1,h2,h3,h4⟩:=h.row i z a hz ha
 have hab:a≠b:=by
  intro q
  subst q
  obtain⟨p1,p2⟩:=List.getElem?_eq_some_iff.mp ha
  obtain⟨q1,q2⟩:=List.getElem?_eq_some_iff.mp hb
  exact hij ((List.getElem_inj h.nd).mp (p2.trans q2.symm))
 have hzx:z≠x:=by
  intro q
  subst q
  obtain⟨p1,p2⟩:=List.getElem?_eq_some_iff.mp hz
  obtain⟨q1,q2⟩:=List.getElem?_eq_some_iff.mp hj
  exact hij ((List.getElem_inj hn).mp (p2.trans q2.symm))
 exact⟨ms,e _ _ hab h1,h2,h3,fun y=>(h4 y).trans (k4 z (List.mem_of_getElem? hz) hzx y)⟩
theorem Tab.at {H:Hp}{r:Addr}{ns:List Str}{as:List Addr}{R:Str->Str->Prop}(h:Tab H r ns as R){x:Str}(hx:x∈ns):∃(i:Nat) (a:Addr),ns[i]? = some x/\as[i]? = some a:=by
 obtain⟨i,hi,e⟩:=List.getElem_of_mem hx
 have hi':i<as.length:=by rw[h.len];exact hi
 exact⟨i,as[i],by rw[List.getElem?_eq_getElem hi,e],List.getElem?_eq_getElem hi'⟩
section
variable {K:PySem.W.Frag}{H:Hp}{Q:VK}{r:Addr}{ns:List Str}{as:List Addr}{R:Str->Str->Prop}
theorem Op {x:Str}{i:Nat}{a:Addr}(h:Tab H r ns as R)(hn:ns.Nodup)(hx:ns[i]? = some x)(ha:as[i]? = some a)(k:Q (.ref a) H):Jx K (.ref r) (.str x) H Q:=i_ixD h.top (Eu hn hx ha) k
theorem Vs {a:Addr}{ks:List Str}{y:Str}(h:H a=some (.dK (Gn ks)))(k:Q (.bl (decide (y∈ks))) H):Wq K false (.str y) (.ref a) H Q:=by
 refine .inr (.inr (.inl ⟨a,Cg (Gn ks) (Sum.inr y:Key),rfl,DGet.k (k:=Sum.inr y) h,?_⟩))
 rw[Lm]
 by_cases e:y∈ks
 . rw[if_pos e];simpa[e] using k
 rw[if_neg e];simpa[e] using k
theorem a41 {a:Addr}{kvs:List (Key×V)}{B:Prop}(h:H a=some (.dK kvs))(k:B):tyV K "dict" (.ref a) H/\B:=⟨.inr (.inr (.inl ⟨rfl,.inl ⟨kvs,h⟩⟩)),k⟩
theorem ai8 {d o:Addr}{ks ms:List Str}(hd:H d=some (.dK (Gn ks)))(ho:H o=some (.dK (Gn ms)))(hne:d≠o)(hz:ks.length+ms.length<=1000000)(k:∀ H',ExtBut d H H'->H' d=some (.dK (Gn (Jk ks ms)))->Q .non H'):Oz (.ref d) [.ref o] H Q:=
 ⟨d,o,_,_,rfl,rfl,hne,hd,ho,by rw[Ol,Ol];exact hz,k _ ExtBut.upd (by rw[A9,M3])⟩
end
structure HalfW (ns:List Str)(ps:List (Str×Str)):Prop where
 nd:ns.Nodup
 mem:∀ p∈ps,p.1∈ns/\p.2∈ns
 irr:∀ x,¬ Way ps x x
 few:ns.length<=100
 le:ps.length<=1000
theorem Half.w {ns:List Str}{ps:List (Str×Str)}(h:Half ns ps):HalfW ns ps:=⟨h.names.1,fun p hp=>h.mem hp,fun _=>h.irrefl,Nat.le_trans h.few (by decide),Nat.le_trans h.le (by decide)⟩
structure War (ns:List Str)(ps:List (Str×Str))(ms:List Str)(R:Str->Str->Prop):Prop where
 snd:∀ z y,R z y->Way ps z y
 edge:∀ z y,(z,y)∈ps->R z y
 shut:∀ m∈ms,∀ z y,R z m->R m y->R z y
def Y2 (R:Str->Str->Prop)(mid:Str)(ms:List Str)(z y:Str):Prop:=R z y\/(z∈ms/\R z mid/\R mid y)
theorem War.step {ns:List Str}{ps:List (Str×Str)}{ms:List Str}{R:Str->Str->Prop}(h:War ns ps ms R){mid:Str}:War ns ps (ms++[mid]) (fun z y=>R z y\/(R z mid/\R mid y)):=by
 refine⟨fun z y hz=>?_,fun z y hz=>.inl (h.edge z y hz),fun m hm z y h1 h2=>?_⟩
 . rcases hz with hz | ⟨h1,h2⟩
   . exact h.snd z y hz
   exact(h.snd _ _ h1).trans (h.snd _ _ h2)
 rcases List.mem_append.mp hm with hm | hm
 . rcases h1 with h1 | ⟨h1,h1'⟩
   . rcases h2 with h2 | ⟨h2,h2'⟩
     . exact .inl (h.shut m hm z y h1 h2)
     exact .inr ⟨h.shut m hm z mid h1 h2,h2'⟩
   rcases h2 with h2 | ⟨h2,h2'⟩
   . exact .inr ⟨h1,h.shut m hm mid y h1' h2⟩
   exact .inr ⟨h1,h2'⟩
 have e:m=mid:=by simpa using hm
 subst e
 rcases h1 with h1 | ⟨h1,h1'⟩
 . rcases h2 with h2 | ⟨h2,h2'⟩
   . exact .inr ⟨h1,h2⟩
   exact .inr ⟨h1,h2'⟩
 rcases h2 with h2 | ⟨h2,h2'⟩
 . exact .inr ⟨h1,h2⟩
 exact .inr ⟨h1,h2'⟩
theorem War.done {ns:List Str}{ps:List (Str×Str)}{R:Str->Str->Prop}(h:War ns ps ns R)(hm:∀ p∈ps,p.1∈ns/\p.2∈ns)(z y:Str):R z y↔Way ps z y:=by
 refine⟨h.snd z y,fun g=>?_⟩
 induction g with
 | one e=>exact h.edge _ _ e
 | cons e _ ih=>exact h.shut _ (hm _ e).2 _ _ (h.edge _ _ e) ih
theorem PrsK.fz {K:PySem.W.Frag} {H H':Hp} (e:Fz H H'):∀ {kvs:List (Key×V)} {ys:List V},PrsK K H kvs ys->PrsK K H' kvs ys
 | [],_,h=>h
 | kv :: r,ys,⟨t,ys',h1,h2,h3⟩=>⟨t,ys',h1,e.seq h2,PrsK.fz e h3⟩
theorem PrsK.snoc {K:PySem.W.Frag}{H:Hp}{kv:Key×V}{t:Addr}(h:SqT K H t [kV kv.1,kv.2]):∀ {kvs:List (Key×V)} {ys:List V},PrsK K H kvs ys->PrsK K H (kvs++[kv]) (ys++[.ref t])
 | [],ys,g=>by
   have g':ys=[]:=g
   subst g'
   exact⟨t,[],rfl,h,rfl⟩
 | k :: r,ys,⟨u,ys',h1,h2,h3⟩=>by
   subst h1
   exact⟨u,ys'++[.ref t],rfl,h2,PrsK.snoc h h3⟩
theorem PrsK.length {K:PySem.W.Frag}{H:Hp}:∀ {kvs:List (Key×V)} {ys:List V},PrsK K H kvs ys->ys.length=kvs.length
 | [],ys,g=>by
   have g':ys=[]:=g
   subst g'
   rfl
 | k :: r,ys,⟨u,ys',h1,h2,h3⟩=>by
   subst h1
   simp[PrsK.length h3]
theorem Vo {K:PySem.W.Frag}{H:Hp}{Q:VK}{l:Addr}{ys:List V}{kvs:List (Key×V)}(h:H l=some (.lst ys))(g:PrsK K H kvs ys)(hz:kvs.length<=1000000)(k:∀ p H',H p=none->Same H H'->H' p=some (.dK (Dw [] kvs))->Q (.ref p) H'):Tf K [.ref l] H Q:=
 ⟨l, ys,kvs,rfl,h,g,by rw[g.length];exact hz,hz,fun p hp=>k p _ hp (Same.upd hp) A9⟩
theorem Ln:∀ {ns:List Str} {as:List Addr},ns.Nodup->((Lk ns as).map (·.1)).Nodup
 | [],as,_=>by simp[Lk]
 | n :: ns,[],_=>by simp[Lk]
 | n :: ns,a :: as,h=>by
   rw[List.nodup_cons] at h
   show((Sum.inr n:Key) :: (Lk ns as).map (·.1)).Nodup
   rw[List.nodup_cons]
   refine⟨fun hm=>?_,Ln h.2⟩
   obtain⟨kv,hkv,e⟩:=List.mem_map.mp hm
   obtain⟨p,hp,rfl⟩:=List.mem_map.mp hkv
   have e':p.1=n:=by injection e
   exact h.1 (e' ▸ (List.of_mem_zip hp).1)
theorem Qn {ns:List Str}{as:List Addr}{z:Str}{a:Addr}(h:ns.length=as.length):Lk (ns++[z]) (as++[a])=Lk ns as++[(Sum.inr z,V.ref a)]:=by
 unfold Lk
 rw[List.zip_append h,List.map_append]
 rfl
end L2
namespace L2
open PySem PySem.Spec PyProof.Rows
open Classical in
def Ae (ps:List (Str×Str))(x y:Str):Bool:=decide (Way ps x y)
theorem wayB_iff {ps:List (Str×Str)} {x y:Str}:Ae ps x y=true↔Way ps x y:=by unfold Ae;simp
theorem Zi {ps:List (Str×Str)}{x y:Str}{b:Bool}(h:b=true↔Way ps x y):b=Ae ps x y:=by
 cases hb:Ae ps x y with
 | true=>exact h.mpr (wayB_iff.mp hb)
 | false=>
   cases b with
   | false=>rfl
   | true=>
     have:=wayB_iff.mpr (h.mp rfl)
     rw[hb] at this
     cases this
theorem Lq {ps:List (Str×Str)}{x y:Str}{p:Prop}[Decidable p](h:p↔Way ps x y):decide p=Ae ps x y:=Zi (by rw[decide_eq_true_iff];exact h)
theorem Hk {ps:List (Str×Str)}{x y:Str}(h:¬ Way ps x y):Ae ps x y=false:=by
 cases hb:Ae ps x y with
 | false=>rfl
 | true=>exact absurd (wayB_iff.mp hb) h
section
variable {K:PySem.W.Frag}{H:Hp}{σ:St}{x:V}{Q:VK}
theorem L9 {ns:List Str}{g:TG}{tt:TT}{te:TE}{k:Nat}{js:List Nat}(h:Is K H (nmD ns) x)(t:Str->Bool)(f:Str->PyData)(hf:∀ a,frz (f a)=true)(hz:ns.length<=1000000)
  (hs:∀(i:Nat) a H1 (R:VK) (R':Hp->Prop),ns[i]? = some a->Same H H1->(t a=true->∀ y H2,Same H1 H2->Is K H2 (f a) y->R y H2)->(t a=false->∀ H2,Same H1 H2->R' H2) ->
   g (.str a) (List.replicate k none++L6 σ js) H1 fun σ2 H2=>tt σ2 H2 fun b H3=>if b=true then te σ2 H3 R else R' H3)
  (hd:∀ p ys H',H p=none->Same H H'->H' p=some (.lst ys)->IsL K H' ((ns.filter t).map f) ys->Q (.ref p) H'):Du K x H fun J H1=>Kt k js g tt te σ J H1 Q:=by
 obtain⟨a,rfl,hS⟩:=h.nm
 refine Oh hS (Cz (K:=K) (Et (xs:=ns.map V.str)) ns (by simp) t f hf (by simpa using hz) (fun H' e=>e.seqT hS) (fun i z v H1 R R' hz hv e hR hR'=>?_) hd)
 rw[List.getElem?_map,hz] at hv
 cases hv
 exact hs i z H1 R R' hz e hR hR'
theorem Ik {ns:List Str}{a:Addr}{g:TG}{tt:TT}{te:TE}{k:Nat}{js:List Nat}(h:SqL K H a (ns.map V.str))(t:Str->Bool)(f:Str->PyData)(hf:∀ a,frz (f a)=true)(hz:ns.length<=1000000)
  (hs:∀(i:Nat) a H1 (R:VK) (R':Hp->Prop),ns[i]? = some a->Same H H1->(t a=true->∀ y H2,Same H1 H2->Is K H2 (f a) y->R y H2)->(t a=false->∀ H2,Same H1 H2->R' H2) ->
   g (.str a) (List.replicate k none++L6 σ js) H1 fun σ2 H2=>tt σ2 H2 fun b H3=>if b=true then te σ2 H3 R else R' H3)
  (hd:∀ p ys H',H p=none->Same H H'->H' p=some (.lst ys)->IsL K H' ((ns.filter t).map f) ys->Q (.ref p) H'):Du K (.ref a) H fun J H1=>Kt k js g tt te σ J H1 Q:=by
 refine G9 h (Cz (K:=K) (Av (xs:=ns.map V.str)) ns (by simp) t f hf (by simpa using hz) (fun H' e=>e.seq h) (fun i z v H1 R R' hz hv e hR hR'=>?_) hd)
 rw[List.getElem?_map,hz] at hv
 cases hv
 exact hs i z H1 R R' hz e hR hR'
theorem Tb {ps:List (Str×Str)}{g:TG}{tt:TT}{te:TE}{k:Nat}{js:List Nat}(h:Is K H (psD ps) x)(t:Str×Str->Bool)(f:Str×Str->PyData)(hf:∀ a,frz (f a)=true)(hz:ps.length<=1000000)
  (hs:∀(i:Nat) a v H1 (R:VK) (R':Hp->Prop),ps[i]? = some a->Is K H1 (prD a) v->Same H H1->(t a=true->∀ y H2,Same H1 H2->Is K H2 (f a) y->R y H2)->(t a=false->∀ H2,Same H1 H2->R' H2) ->
   g v (List.replicate k none++L6 σ js) H1 fun σ2 H2=>tt σ2 H2 fun b H3=>if b=true then te σ2 H3 R else R' H3)
  (hd:∀ p ys H',H p=none->Same H H'->H' p=some (.lst ys)->IsL K H' ((ps.filter t).map f) ys->Q (.ref p) H'):Du K x H fun J H1=>Kt k js g tt te σ J H1 Q:=by
 obtain⟨a,xs,rfl,hS,hL⟩:=Is.tup h
 have hl:ps.length=xs.length:=by rw[<- IsL.length hL,List.length_map]
 refine Oh hS (Cz (K:=K) (Et (xs:=xs)) ps hl t f hf (by omega) (fun H' e=>e.seqT hS) (fun i z v H1 R R' hz hv e hR hR'=>?_) hd)
 obtain⟨d,e1,e2⟩:=IsL.get (IsL.mono e _ _ hL) hv
 rw[List.getElem?_map,hz] at e1
 cases e1
 exact hs i z v H1 R R' hz e2 e hR hR'
theorem Pd {ps:List (Str×Str)}{a:Addr}{ys:List V}(h:H a=some (.lst ys))(g:IsL K H (ps.map prD) ys)(k:∀ v H',Same H H'->Is K H' (psD ps) v->Q v H'):Lu K [.ref a] H Q:=
 Ii (SqL.of h) fun p H' hp e h'=>k _ H' e (Is.of_tup (SqT.of h') (IsL.mono e _ _ g))
end
end L2
namespace L2
open PySem PySem.Spec PyProof.Rows
open AutoSeq1 (wpAny_loadPart')
section
variable {prog:Program}{w:World}{A:Around}{E:Value->Shared->Prop}{s:Shared}
end
theorem Inv.turnedL {X:Cx}{pins:List (Addr×Obj)}{σ:St}{H:Hp}{s:Shared}{h':Heap}{t':Nat}{ch:List Addr}(I:Inv X pins σ H s)(k:∀ b o,b∉ch->s.heap.get? b=some o->h'.get? b=some o)(hf:∀ b∈ch,Pu X pins H b):Inv X pins σ H { s with heap:=h',toks:=t' }:=by
 have nit:∀ b u,H b=some u->b∉ch:=fun b u e z=>by rw[(hf b z).1] at e;cases e
 refine I.step (g':=s.gens) (d':=s.drawn) (ch:=ch) (fun b hb=>?_) (fun b o _ _ hc e _=>k b o hc e) (fun b o _ _ hc e _=>⟨o.slots,k b o hc e⟩) (fun _ _ _ _ n=>n)
  (fun b o hc e=>⟨o,k b o hc e⟩) (fun _ _ e=>e) (fun _ _ _ e=>e) (fun b ps e=>⟨#[],by rw[e];simp⟩) (fun m hm=>?_) (fun b u e=>?_) I.bare
 . obtain⟨_,h2,_,h4,h5,h6⟩:=hf b hb
   exact⟨h4,h2,h5,h6⟩
 . obtain⟨o,es,ep,ho,r⟩:=hm
   exact⟨o,es,ep,k _ o (fun z=>(hf _ z).2.1 rfl) ho,r⟩
 refine(I.hok b u e).stay (fun c v hc q=>k c v ?_ q) (fun _ q=>q) fun _ _ q=>q
 rcases hc with z | z
 . rw[z];exact nit b u e
 exact nit c _ z
section
variable {X:Cx}{K:PySem.W.Frag}
theorem K0:bootBuiltins "enumerate" = some (.type "enumerate"):=PyProof.Rows.Boot.«enumerate»
end
section
variable {K:PySem.W.Frag}{σ:St}{H:Hp}
end
end L2
namespace L2
open PySem PySem.Spec PyProof.Rows
section
variable {X:Cx}{K:PySem.W.Frag}
section
variable {H:Hp}{Q:VK}{lo hi:Option Int}
theorem ab9 {a b:Addr}{xs ys:List V}(h1:SqT K H a xs)(h2:SqT K H b ys)(h:xs.length+ys.length<=sizeLine)(k:∀ p H',Same H H'->SqT K H' p (xs++ys)->Q (.ref p) H'):Rj K (.ref a) (.ref b) H Q:=by
 by_cases hx:xs=[]
 . subst hx
   exact .inr (.inr (.inr (.inr ⟨a,b,ys,rfl,rfl,h1,h2,k b H (Same.refl _) h2⟩)))
 refine .inr (.inr (.inr (.inl ⟨a,b,xs,ys,rfl,rfl,h1,h2,hx,h,fun e=>?_,fun _ p hp=>k p _ (Same.upd hp) (SqT.of A9)⟩)))
 subst e
 exact k a H (Same.refl _) (by rw[List.append_nil];exact h1)
theorem aj8 {a:Addr}{xs:List V}(h:SqT K H a xs)(k:∀ p H',Same H H'->SqT K H' p (K8 xs lo hi)->Q (.ref p) H'):a57 K (.ref a) lo hi H Q:=by
 by_cases hw:HT.sIx xs.length 0 lo=0/\HT.sIx xs.length xs.length hi=xs.length
 . refine .inr (.inr (.inr ⟨a,xs,rfl,h,hw,k a H (Same.refl _) ?_⟩))
   have e:K8 xs lo hi=xs:=by
    unfold K8
    rw[hw.1,hw.2,List.drop_zero,Nat.sub_zero,List.take_length]
   rw[e]
   exact h
 exact .inr (.inl ⟨a,xs,rfl,h,hw,fun p hp=>k p _ (Same.upd hp) (SqT.of A9)⟩)
end
end
theorem Way.more {ps:List (Str×Str)}{p:Str×Str}{x y:Str}(h:Way (ps++[p]) x y):Way ps x y\/((x=p.1\/Way ps x p.1)/\(y=p.2\/Way ps p.2 y)):=by
 induction h with
 | @one a b e=>
   rcases List.mem_append.mp e with e | e
   . exact .inl (.one e)
   have:(a,b)=p:=by simpa using e
   subst this
   exact .inr ⟨.inl rfl,.inl rfl⟩
 | @cons a c b e _ ih=>
   rcases List.mem_append.mp e with e | e
   . rcases ih with g | ⟨g1,g2⟩
     . exact .inl (.cons e g)
     refine .inr ⟨.inr ?_,g2⟩
     rcases g1 with rfl | g1
     . exact .one e
     exact .cons e g1
   have:(a,c)=p:=by simpa using e
   subst this
   rcases ih with g | ⟨g1,g2⟩
   . exact .inr ⟨.inl rfl,.inr g⟩
   exact .inr ⟨.inl rfl,g2⟩
theorem Sw {ps:List (Str×Str)}{p:Str×Str}(h:∀ x,¬ Way ps x x)(h1:¬ p.2=p.1)(h2:¬ Way ps p.2 p.1):∀ x,¬ Way (ps++[p]) x x:=fun x g=>by
 rcases g.more with g | ⟨g1,g2⟩
 . exact h x g
 rcases g1 with rfl | g1
 . rcases g2 with g2 | g2
   . exact h1 g2.symm
   exact h2 g2
 rcases g2 with rfl | g2
 . exact h2 g1
 exact h2 (g2.trans g1)
section
variable {K:PySem.W.Frag}{σ:St}{H:Hp}{Q:VK}{td ty:TE}
theorem i_andV {ta tb:TE}(k:ta σ H fun x H1=>∃ c,x = .bl c/\if c=true then tb σ H1 Q else Q (.bl false) H1):aa1 ta tb σ H Q:=k
end
def Keep (as:List Addr)(H H':Hp):Prop:=(∀ b o,b∉as->H b=some o->H' b=some o)/\∀ a∈as,∀ u,Rd H a u->Rd H' a u
theorem Keep.refl (as:List Addr)(H:Hp):Keep as H H:=⟨fun _ _ _ h=>h,fun _ _ _ h=>h⟩
theorem Keep.freeze {as:List Addr}{H:Hp}{a:Addr}{u:HO}{o:Obj}(ha:a∈as)(h:H a=some u)(hu:∀ o' u',u ≠ .frz o' u'):Keep as H (upd H a (.frz o u)):=by
 refine⟨fun b q hb e=>?_,fun b hb w e=>?_⟩
 . have hne:b≠a:=fun z=>by subst z;exact hb ha
   rw[Aq hne]
   exact e
 by_cases hba:b=a
 . subst hba
   rcases e with e | ⟨o',e⟩
   . rw[h] at e
     cases e
     exact .inr ⟨o,A9⟩
   rw[h] at e
   cases e
   exact absurd rfl (hu _ _)
 rcases e with e | ⟨o',e⟩
 . exact .inl (by rw[Aq hba];exact e)
 exact .inr ⟨o',by rw[Aq hba];exact e⟩
theorem Keep.rd {as:List Addr}{H H':Hp}(k:Keep as H H'){a:Addr}{u:HO}(h:Rd H a u):Rd H' a u:=by
 by_cases ha:a∈as
 . exact k.2 a ha u h
 rcases h with h | ⟨o,h⟩
 . exact .inl (k.1 _ _ ha h)
 exact .inr ⟨o,k.1 _ _ ha h⟩
theorem Keep.fz {as:List Addr}{H H':Hp}(k:Keep as H H'):Fz H H':=fun a xs h=>k.rd h
structure TabR (H:Hp)(r:Addr)(ns:List Str)(as:List Addr)(R:Str->Str->Prop):Prop where
 len:as.length=ns.length
 top:Rd H r (.dK (Lk ns as))
 row:∀(i:Nat) (z:Str) (a:Addr),ns[i]? = some z->as[i]? = some a->∃ ks:List Str,Rd H a (.dK (Gn ks))/\ks.Nodup/\(∀ y∈ks,y∈ns)/\∀ y,y∈ks↔R z y
theorem Tab.toR {H:Hp}{r:Addr}{ns:List Str}{as:List Addr}{R:Str->Str->Prop}(h:Tab H r ns as R):TabR H r ns as R:=
 ⟨h.len,.inl h.top,fun i z a hz ha=>let ⟨ks,h1,h2⟩:=h.row i z a hz ha;⟨ks,.inl h1,h2⟩⟩
theorem TabR.at {H:Hp}{r:Addr}{ns:List Str}{as:List Addr}{R:Str->Str->Prop}(h:TabR H r ns as R){x:Str}(hx:x∈ns):∃(i:Nat) (a:Addr),ns[i]? = some x/\as[i]? = some a:=by
 obtain⟨i,hi,e⟩:=List.getElem_of_mem hx
 have hi':i<as.length:=by rw[h.len];exact hi
 exact⟨i,as[i],by rw[List.getElem?_eq_getElem hi,e],List.getElem?_eq_getElem hi'⟩
section
variable {K:PySem.W.Frag}{σ:St}{H:Hp}{Q:VK}{r:Addr}{ns:List Str}{as:List Addr}{R:Str->Str->Prop}
theorem aa6 {a:Addr}{kvs:List (Key×V)}{z:Str}{v:V}(h:Rd H a (.dK kvs))(e:Cg kvs (Sum.inr z:Key)=some v)(k:Q v H):Jx K (.ref a) (.str z) H Q:=.inr ⟨a,v,rfl,.inl ⟨kvs,Sum.inr z,h,rfl,e.symm⟩,k⟩
theorem Y3 {x:Str}{i:Nat}{a:Addr}(h:TabR H r ns as R)(hn:ns.Nodup)(hx:ns[i]? = some x)(ha:as[i]? = some a)(k:Q (.ref a) H):Jx K (.ref r) (.str x) H Q:=aa6 h.top (Eu hn hx ha) k
theorem Me {a:Addr}{ks:List Str}{y:Str}(h:Rd H a (.dK (Gn ks)))(k:Q (.bl (!decide (y∈ks))) H):Wq K true (.str y) (.ref a) H Q:=by
 refine .inr (.inr (.inl ⟨a,Cg (Gn ks) (Sum.inr y:Key),rfl,.inl ⟨_,Sum.inr y,h,rfl,rfl⟩,?_⟩))
 rw[Lm]
 by_cases e:y∈ks
 . simpa[e] using k
 simpa[e] using k
theorem Zd {as:List Addr}{a:Addr}{kvs:List (Key×V)}{R:It->Hp->Prop}(h:Rd H a (.dK kvs))(ha:a∈as)(k:∀ o H',Keep as H H'->H' a=some (.frz o (.dK kvs))->R (Itd a o kvs) H'):Du K (.ref a) H R:=by
 rcases h with h | ⟨o,h⟩
 . exact ai6 h fun o=>k o _ (Keep.freeze ha h fun _ _ z=>by cases z) A9
 exact ak5 h (k o H (Keep.refl _ _) h)
end
def unB (ps:List (Str×Str))(x y:Str):Bool:=!Ae ps x y && !Ae ps y x
def unR (ns:List Str)(ps:List (Str×Str))(i:Nat):List (Str×Str):=((ns.drop (i+1)).filter fun y=>unB ps (ns.getD i "") y).map fun y=>(ns.getD i "",y)
def unK (ns:List Str) (ps:List (Str×Str)) (k:Nat):List (Str×Str):=(List.range k).flatMap (unR ns ps)
def unP (ns:List Str)(ps:List (Str×Str)):List (Str×Str):=unK ns ps ns.length
theorem Pp {α β:Type}(f:α->List β)(n:Nat)(h:∀ a,(f a).length<=n):∀ l:List α,(l.flatMap f).length<=l.length*n
 | []=>by simp
 | a :: l=>by
   rw[List.flatMap_cons,List.length_append,List.length_cons,Nat.add_mul]
   have:=Pp f n h l
   have:=h a
   omega
theorem Zs (ns:List Str)(ps:List (Str×Str))(i:Nat):(unR ns ps i).length<=ns.length:=by
 unfold unR
 rw[List.length_map]
 exact Nat.le_trans (List.length_filter_le _ _) (by rw[List.length_drop];omega)
theorem a30 (ns:List Str)(ps:List (Str×Str))(k:Nat):(unK ns ps k).length<=k*ns.length:=by
 have:=Pp (unR ns ps) ns.length (Zs ns ps) (List.range k)
 rwa[List.length_range] at this
theorem Wr (ns:List Str)(ps:List (Str×Str))(k:Nat):unK ns ps (k+1)=unK ns ps k++unR ns ps k:=by
 unfold unK
 rw[List.range_succ,List.flatMap_append]
 simp
theorem Yz {ns:List Str}{ps:List (Str×Str)}{k:Nat}{p:Str×Str}(hk:k<=ns.length)(h:p∈unK ns ps k):p.1∈ns/\p.2∈ns/\unB ps p.1 p.2=true:=by
 unfold unK at h
 rw[List.mem_flatMap] at h
 obtain⟨i,hi,h⟩:=h
 have hi:=List.mem_range.mp hi
 unfold unR at h
 obtain⟨y,hy,rfl⟩:=List.mem_map.mp h
 rw[List.mem_filter] at hy
 refine⟨?_,List.mem_of_mem_drop hy.1,hy.2⟩
 exact List.mem_of_getElem? (Ee (i:=i) (by omega))
theorem Ut {ns:List Str}{ps:List (Str×Str)}{p:Str×Str}(h:p∈unP ns ps):p.1∈ns/\p.2∈ns/\unB ps p.1 p.2=true:=Yz (Nat.le_refl _) h
section
variable {K:PySem.W.Frag}{H:Hp}{σ:St}
theorem X9 {ns:List Str}{i:Nat}(h:i<=ns.length):K8 (ns.map V.str) (some ((i:Nat):Int)) none=(ns.drop i).map V.str:=by
 rw[G0 (by omega) (by rw[List.length_map];omega),List.map_drop]
 rfl
end
section
variable {prog:Program}{w:World}{A:Around}{E:Value->Shared->Prop}{s:Shared}
end
section
variable {X:Cx}{K:PySem.W.Frag}
end
section
variable {K:PySem.W.Frag}{σ:St}{H:Hp}
end
theorem Kv (Ls:List (List Str)):Jl (Ls.map nmD)=true:=Dn _ Jc Ls
section
variable {K:PySem.W.Frag}{H:Hp}{Q:VK}
end
section
variable {P:Program}{w:World}{κ:Type}[DecidableEq κ]{knd:KeyKind P w κ}{A:Around}{E:Value->Shared->Prop}{s:Shared}
end
section
variable {X:Cx}{pins:List (Addr×Obj)}{σ:St}{H:Hp}{s:Shared}{A:Around}
end
section
variable {prog:Program}{w:World}{A:Around}{E:Value->Shared->Prop}{s:Shared}
end
section
variable {X:Cx}{K:PySem.W.Frag}
end
theorem Way.mem {ns:List Str}{ps:List (Str×Str)}(hm:∀ p∈ps,p.1∈ns/\p.2∈ns){x y:Str}(h:Way ps x y):x∈ns/\y∈ns:=by
 obtain⟨p,hp,e⟩:=List.mem_map.mp h.left
 obtain⟨q,hq,e'⟩:=List.mem_map.mp h.right
 exact⟨e ▸ (hm p hp).1,e' ▸ (hm q hq).2⟩
section
variable {P:Program}{w:World}{A:Around}{R:Result->Shared->Prop}{it:Addr}{fp wr:List Addr}{G:Array GenState->Array GenState->Prop}{n:Nat}{PV:Nat->Value->Prop}{St:Nat->Shared->Prop}
end
section
variable {prog:Program}{w:World}{A:Around}{E:Value->Shared->Prop}{s:Shared}
set_option maxHeartbeats 3200000 in
end
section
variable {X:Cx}{K:PySem.W.Frag}
end
theorem Yo {z:Str}(h:Qv z=true):z.length<=8:=(al5 h).2
section
variable {K:PySem.W.Frag} {H:Hp} {Q:VK}
end
theorem Dt (ns:List Int):∀ j ≤ ns.length,preSum (fun i=>ns.getD i 0) j=(ns.take j).sum
 | 0,_=>by simp[preSum]
 | j+1,h=>by
   rw[preSum,Dt ns j (by omega),List.take_add_one,Ee (y:=0) (by omega:j<ns.length)]
   simp
theorem Jt:∀ {ns:List Int},(∀ n∈ns,0<=n/\n<=1000000000000)->0<=ns.sum/\ns.sum<=1000000000000*(ns.length:Int)
 | [],_=>by simp
 | n :: ns,h=>by
   have h1:=h n (by simp)
   have h2:=Jt fun m hm=>h m (List.mem_cons_of_mem _ hm)
   rw[List.sum_cons,List.length_cons]
   omega
section
variable {X:Cx}{K:PySem.W.Frag}
def aj4 (K:PySem.W.Frag):List V->Hp->VK->Prop:=fun xs H Q=>∃(a:Addr) (ns:List Int),xs=[.ref a]/\(SqL K H a (ns.map V.int)\/SqT K H a (ns.map V.int))/\(∀ n∈ns,0<=n/\n<=1000000000000)/\ns.length<=1000000/\Q (.int ns.sum) H
theorem Yg {ns:List Int}{its:List Value}(r:Vals (ns.map V.int) its){i:Nat}{v:Value}(h:its.toArray[i]? = some v):∃ t,v = .int (ns.getD i 0) t:=by
 rw[List.getElem?_toArray] at h
 have hl:=r.length
 rw[List.length_map] at hl
 have hi:i<ns.length:=by
  have:=(List.getElem?_eq_some_iff.mp h).1
  omega
 obtain⟨u,hu,ru⟩:=r.get (i:=i) (x:=.int (ns.getD i 0)) (by rw[List.getElem?_map,Ee (y:=0) hi];rfl)
 rw[h] at hu
 cases hu
 exact ru
theorem Uc (hc:X.calm=true):CallR X (.builtin "sum") (aj4 X.K):=by
 intro pins s σ H xs us Q I r h
 obtain⟨a,ns,rfl,hl,hb,hz,q⟩:=h
 obtain⟨u,rfl,ru⟩:=Gi r
 cases ru
 have fits:∀ j,j<ns.length->InLong (ns.getD j 0)/\InLong (preSum (fun i=>ns.getD i 0) (j+1)):=fun j hj=>by
  have h1:=hb _ (List.mem_of_getElem? (Ee (y:=0) hj))
  have h2:=Jt (ns:=ns.take (j+1)) fun n hn=>hb n (List.mem_of_mem_take hn)
  rw[Dt ns (j+1) hj]
  rw[List.length_take] at h2
  unfold InLong
  omega
 have last:preSum (fun i=>ns.getD i 0) ns.length=ns.sum:=by rw[Dt ns _ (Nat.le_refl _),List.take_length]
 refine call_sum_walk ?_
 rcases hl with hl | hl
 . obtain⟨its,rv,pl,_⟩:=I.list hl
   have hlen:its.toArray.size=ns.length:=by rw[List.size_toArray,<- rv.length,List.length_map]
   have hlt:a<s.heap.objs.size:=let ⟨_,e,_⟩:=pl.isList;Heap.lt_size e
   refine wpAny_pyIter_list pl.isList ?_
   refine⟨_,_,_,_,_,_,fun i=>ns.getD i 0,rfl,Walks.list (by simpa using I.ok.hd hc) _ a (Nat.ne_of_lt hlt) its.toArray,⟨⟨_,Heap.get?_push_size _ rfl,rfl,rfl⟩,pl.isList.push _⟩,fun b hb'=>?_,fun i v hv=>Yg rv hv,by rw[hlen];exact fits,fun h' tk t' hk=>?_⟩
   . rw[Heap.size_push]
     simp only[List.mem_cons,List.not_mem_nil,or_false] at hb'
     rcases hb' with rfl | rfl
     . exact Nat.lt_succ_self _
     exact Nat.lt_succ_of_lt hlt
   refine⟨.int ns.sum,H,I.kept (t':=tk) fun b o e=>hk b o (fun z=>?_) (Heap.get?_push_of_some _ e),⟨t',by rw[hlen,last]⟩,q⟩
   have:b=s.heap.objs.size:=by simpa using z
   subst this
   exact absurd (Heap.lt_size e) (Nat.lt_irrefl _)
 obtain⟨its,rv,pl,_⟩:=I.tuple hl
 have hlen:its.toArray.size=ns.length:=by rw[List.size_toArray,<- rv.length,List.length_map]
 have hlt:a<s.heap.objs.size:=let ⟨_,e,_⟩:=pl;Heap.lt_size e
 refine wpAny_pyIter_tuple pl ?_
 refine⟨_,_,_,_,_,_,fun i=>ns.getD i 0,rfl,Walks.tuple (by simpa using I.ok.hd hc) _ a (Nat.ne_of_lt hlt) its.toArray,⟨⟨_,Heap.get?_push_size _ rfl,rfl,rfl⟩,Heap.IsTuple.push pl _⟩,fun b hb'=>?_,fun i v hv=>Yg rv hv,by rw[hlen];exact fits,fun h' tk t' hk=>?_⟩
 . rw[Heap.size_push]
   simp only[List.mem_cons,List.not_mem_nil,or_false] at hb'
   rcases hb' with rfl | rfl
   . exact Nat.lt_succ_self _
   exact Nat.lt_succ_of_lt hlt
 refine⟨.int ns.sum,H,I.kept (t':=tk) fun b o e=>hk b o (fun z=>?_) (Heap.get?_push_of_some _ e),⟨t',by rw[hlen,last]⟩,q⟩
 have:b=s.heap.objs.size:=by simpa using z
 subst this
 exact absurd (Heap.lt_size e) (Nat.lt_irrefl _)
theorem Ng (hc:X.calm=true)(hK:X.K=K:=by ac_nf):CallR X (.builtin "sum") (aj4 K):=hK ▸ Uc hc
theorem ah1 {a:Addr}{ns:List Int}{H:Hp}{Q:VK}(h:SqL K H a (ns.map V.int)\/SqT K H a (ns.map V.int))(hb:∀ n∈ns,0<=n/\n<=1000000000000)(hz:ns.length<=1000000)(k:Q (.int ns.sum) H):aj4 K [.ref a] H Q:=⟨a,ns,rfl,h,hb,hz,k⟩
end
section
variable {prog:Program}{w:World}{A:Around}{E:Value->Shared->Prop}{s:Shared}
theorem Uj {t:Addr}{items:Array Value}{x:Value}{e:Value->Bool}{j:Nat}{Q:Value->Shared->Prop}(ht:IsTup s.heap t items)(hj:j<items.size)(he:∀ y,y∈items->SeqAt.EqAt A.in1 s y x (e y))(hit:e items[j]=true)
  (hno:∀ m (hm:m<items.size),m<j->e items[m]=false) (h:Q (.int j s.toks) { s with toks:=s.toks+1 }):wpAny (model prog w) A (call (.builtin "tuple.index") [.ref t,x]) Q E s:=by
 refine wpAny_call_entry PySem.F.slot_tuple_index ht.typeIs PySem.F.entry_tuple_index ?_ (PySem.F.args_tuple_index_2 _ _)
 unfold Builtin.«tuple.index»
 refine wpAny_bind (wpAny_of_eq (a:=(Value.ref t,[x])) (by first | rfl | kernel_rfl) ?_)
 refine wpAny_bind (m:=Builtin.Tuple.tupleItemsOf _) (tupleItemsOf_ ht ?_)
 refine wpAny_bind (m:=pure 0) (wpAny_pure ?_)
 refine wpAny_bind (m:=pure items.size) (wpAny_pure ?_)
 dsimp only
 rw[Nat.min_self]
 refine wpAny_bind ?_
 rw[Std.Legacy.Range.forIn_eq_forIn_range',show Std.Legacy.Range.size [:items.size]=items.size by simp[Std.Legacy.Range.size]]
 refine wpAny_forIn_list _ (fun l q s'=>s'=s/\q=(none,())/\∃ i,i<=j/\l=List.range' i (items.size-i)) _ ?_ ?_ _ _ ⟨rfl,rfl,0,Nat.zero_le _,rfl⟩
 . rintro m l q s' ⟨rfl,rfl,i,hi,el⟩
   rw[show items.size-i=items.size-(i+1)+1 by omega,List.range'_succ] at el
   injection el with e1 e2
   subst e1
   have hm:m<items.size:=by omega
   rw[Array.getElem?_eq_getElem hm]
   refine wpAny_bind (he _ (Array.getElem_mem hm) prog w _ _ ?_)
   by_cases hmj:m=j
   . subst hmj
     rw[hit,if_pos rfl]
     refine wpAny_bind (m:=retInt _) ?_
     refine wpAny_bind (wpAny_mkInt ?_)
     exact wpAny_pure (wpAny_pure (wpAny_pure ⟨_,rfl,h⟩))
   rw[hno m hm (by omega),if_neg (by decide)]
   exact wpAny_pure ⟨rfl,rfl,m+1,by omega,e2⟩
 rintro q s' ⟨rfl,rfl,i,hi,el⟩
 exfalso
 rw[show items.size-i=items.size-(i+1)+1 by omega,List.range'_succ] at el
 cases el
end
section
variable {X:Cx}{K:PySem.W.Frag}
def Od (K:PySem.W.Frag):V->List V->Hp->VK->Prop:=fun x vs H Q=>∃(a:Addr) (ns:List Str) (z:Str) (j:Nat),x = .ref a/\vs=[.str z]/\SqT K H a (ns.map V.str)/\ns[j]? = some z/\(∀ m<j,ns[m]? ≠ some z)/\Q (.int (j:Nat)) H
theorem Tz:MtR X "tuple.index" (Od X.K):=by
 intro pins s σ H x vs v us Q I rx rv h
 obtain⟨a,ns,z,j,rfl,rfl,hS,hj,hno,q⟩:=h
 cases rx
 obtain⟨u,rfl,ru⟩:=rv.one
 obtain⟨its,r,p,hz⟩:=I.tuple hS
 have hlen:=r.length
 rw[List.length_map] at hlen
 have hjn:=(List.getElem?_eq_some_iff.mp hj).1
 have at':∀ m (hm:m<its.toArray.size),∃ y t,ns[m]? = some y/\its.toArray[m] = .str y t:=fun m hm=>by
  have hm':m<ns.length:=by rw[List.size_toArray] at hm;omega
  obtain⟨w,hw,rw'⟩:=r.get (i:=m) (x:=.str ns[m]) (by rw[List.getElem?_map,List.getElem?_eq_getElem hm'];rfl)
  obtain⟨t,rfl⟩:=rw'
  refine⟨ns[m],t,List.getElem?_eq_getElem hm',?_⟩
  have h2:=(List.getElem?_eq_some_iff.mp hw).2
  simpa using h2
 have tell:∀ y t,eqU (.str z) (.str y t)=decide (y=z):=fun y t=>by
  show(y==z)=_
  by_cases h:y=z<;>simp[h]
 refine Uj (j:=j) (e:=eqU (.str z)) p (by rw[List.size_toArray];omega) (fun w hw=>G4 ru rfl r (Gx ns) w (by simpa using hw)) ?_ (fun m hm hmj=>?_) ⟨.int _,H,I.tok _,⟨_,rfl⟩,q⟩
 . obtain⟨y,t,h1,h2⟩:=at' j (by rw[List.size_toArray];omega)
   rw[h2,tell]
   rw[hj] at h1
   exact decide_eq_true (Option.some.inj h1).symm
 obtain⟨y,t,h1,h2⟩:=at' m hm
 rw[h2,tell]
 refine decide_eq_false fun e=>hno m hmj ?_
 rw[h1,e]
theorem G7 (hK:X.K=K:=by ac_nf):MtR X "tuple.index" (Od K):=hK ▸ Tz
theorem Ig {a:Addr}{ns:List Str}{z:Str}{j:Nat}{H:Hp}{Q:VK}(h:SqT K H a (ns.map V.str))(hj:ns[j]? = some z)(hno:∀ m<j,ns[m]? ≠ some z)(k:Q (.int (j:Nat)) H):Od K (.ref a) [.str z] H Q:=⟨a,ns,z,j,rfl,rfl,h,hj,hno,k⟩
def ao1 (K:PySem.W.Frag)(r:V->List V->Hp->VK->Prop)(to:TE)(t:TA):TE:=fun σ H Q=>to σ H fun x H1=>(∃ a xs,x = .ref a/\SqT K H1 a xs)/\t σ H1 fun vs H2=>r x vs H2 Q
theorem Px {o e:Expr}{es:List Expr}{to:TE}{t:TA}{name:Str}{apos cpos:Pos}{id:String}{r:V->List V->Hp->VK->Prop}(slot:Slot "tuple" name id)(hty:typeOf (.builtin id)=pure (.type "method_descriptor"))(hm:MtR X id r)(ho:PE X o to)(ha:PA X (e :: es) t)(hK:X.K=K:=by ac_nf)
  (hbase:attributeBase o name X.env (eval o X.env)=eval o X.env:=by ac_nf)
  (hfew:((backTo cpos (starEach (e :: es) X.env)).all (fun x=>!x.1)&&(backToKw cpos (keywordEach [] X.env)).all (fun x=>x.1.isSome)&&decide ((e :: es).length+([]:List Keyword).length+(if([]:List Keyword).isEmpty then 0 else 1)<30))=true:=by ac_nf)
  (hline:(apos.endLine==cpos.line)=true:=by ac_nf) (hs:starEach (e :: es) X.env=(false,eval e X.env) :: starEach es X.env:=by ac_nf) (hplain:(backTo cpos (starEach es X.env)).any (·.1)=false:=by ac_nf) :
  PE X (.Call (.Attribute o name apos) (e :: es) [] cpos) (ao1 K r to t):=by
 subst hK
 intro pins s σ H Q I h
 refine wpAny_Call_method_late hbase hfew hline rfl (thn (ho pins s σ H _ I h) fun v s1 ⟨x,H1,I1,r1,ty,q1⟩=>?_)
 obtain⟨a,xs,rfl,hS⟩:=ty
 cases r1
 obtain⟨its,_,p,_⟩:=I1.tuple hS
 refine⟨"tuple",id,PySem.F.plainAttrs_tuple,slot,hty,p.typeIs,(fun b e=>by cases e;exact I1.tupleN hS),?_⟩
 have hA:=ha cpos pins s1 σ H1 _ I1 q1
 rw[hs] at hA ⊢
 refine Calls.callWith_builtin (by show(false||(backTo cpos (starEach es X.env)).any (·.1))=false;rw[hplain];rfl) (Calls.evalArgs_plain ?_)
 exact thn hA fun us s2 ⟨vs,H2,I2,r2,q2⟩=>hm pins s2 σ H2 (.ref a) vs _ us Q I2 rfl r2 q2
theorem i_bmT {r:V->List V->Hp->VK->Prop}{te:TE}{ts:TA}{σ:St}{H:Hp}{Q:VK}(k:te σ H fun x H1=>(∃ a xs,x = .ref a/\SqT K H1 a xs)/\ts σ H1 fun xs H2=>r x xs H2 Q):ao1 K r te ts σ H Q:=k
theorem X6 {a:Addr}{xs:List V}{H:Hp}{B:Prop}(h:SqT K H a xs)(k:B):(∃ a' xs',V.ref a = .ref a'/\SqT K H a' xs')/\B:=⟨⟨a,xs,rfl,h⟩,k⟩
end
section
variable {prog:Program}{w:World}{A:Around}{E:Value->Shared->Prop}{s:Shared}
end
section
variable {X:Cx}{K:PySem.W.Frag}
end
section
variable {α:Type}[DecidableEq α]
def Ao:List α->(α->Bool)->Nat
 | [],_=>0
 | x :: xs,p=>(p x).toNat+2*Ao xs p
def De:List α->α->Nat
 | [],_=>0
 | y :: ys,x=>if x=y then 1 else 2*De ys x
theorem Hm {p q:α->Bool}:∀ {ns:List α},(∀ x∈ns,p x=q x)->Ao ns p=Ao ns q
 | [],_=>rfl
 | x :: xs,h=>by
   unfold Ao
   rw[h x (by simp),Hm (ns:=xs) fun y hy=>h y (by simp[hy])]
theorem Xi {a b:Bool} {m n:Nat} (h:a.toNat+2*m=b.toNat+2*n):a=b/\m=n:=by
 cases a<;>cases b<;>simp[Bool.toNat] at h ⊢ <;> omega
theorem Gs {p q:α->Bool}:∀ {ns:List α},Ao ns p=Ao ns q->∀ x∈ns,p x=q x
 | [],_,x,hx=>by cases hx
 | y :: ys,h,x,hx=>by
   unfold Ao at h
   obtain⟨h1,h2⟩:=Xi h
   rcases List.mem_cons.mp hx with rfl | hx
   . exact h1
   exact Gs h2 x hx
theorem Xb (a b:Bool)(m n:Nat):(a.toNat+2*m) &&& (b.toNat+2*n)=(a&&b).toNat+2*(m &&& n):=by
 apply Nat.eq_of_testBit_eq
 intro i
 rw [Nat.testBit_and]
 cases i with
 | zero=>
   cases a<;>cases b<;>simp[Nat.testBit_zero,Bool.toNat]<;>omega
 | succ i=>
   rw[Nat.testBit_succ,Nat.testBit_succ,Nat.testBit_succ]
   have e:∀(c:Bool) (k:Nat),(c.toNat+2*k) / 2=k:=fun c k=>by cases c<;>simp[Bool.toNat]<;>omega
   rw[e,e,e,Nat.testBit_and]
theorem Qk (p q:α->Bool):∀ ns:List α,Ao ns p &&& Ao ns q=Ao ns (fun x=>p x&&q x)
 | []=>by simp[Ao]
 | x :: xs=>by
   unfold Ao
   rw[Xb,Qk p q xs]
theorem binM_zero {p:α->Bool}:∀ {ns:List α},Ao ns p=0↔∀ x∈ns,p x=false
 | []=>by simp[Ao]
 | x :: xs=>by
   unfold Ao
   have:=binM_zero (p:=p) (ns:=xs)
   constructor
   . intro h y hy
     have h1:(p x).toNat=0:=by omega
     have h2:Ao xs p=0:=by omega
     rcases List.mem_cons.mp hy with rfl | hy
     . cases e:p y with
       | false=>rfl
       | true=>rw[e] at h1;cases h1
     exact this.mp h2 y hy
   intro h
   rw[h x (by simp),this.mpr fun y hy=>h y (by simp[hy])]
   rfl
theorem Oi (p:α->Bool):∀ ns:List α,Ao ns p<2 ^ ns.length
 | []=>by simp[Ao]
 | x :: xs=>by
   have:=Oi p xs
   unfold Ao
   rw[List.length_cons,Nat.pow_succ]
   have:(p x).toNat<=1:=by cases p x<;>simp[Bool.toNat]
   omega
theorem Td:∀ {ns:List α},ns.Nodup->∀ {x:α},x∈ns->De ns x=Ao ns (fun y=>decide (y=x))
 | [],_,x,h=>by cases h
 | y :: ys,hn,x,h=>by
   obtain⟨h1,h2⟩:=List.nodup_cons.mp hn
   unfold De Ao
   by_cases e:x=y
   . subst e
     rw[if_pos rfl,(binM_zero (p:=fun y=>decide (y=x)) (ns:=ys)).mpr fun z hz=>decide_eq_false fun q=>h1 (by rw[<- q];exact hz)]
     simp[Bool.toNat]
   rw[if_neg e,Td h2 ((List.mem_cons.mp h).resolve_left e)]
   have:decide (y=x)=false:=decide_eq_false fun q=>e q.symm
   show _=(decide (y=x)).toNat+_
   rw[this]
   simp[Bool.toNat]
theorem Lx (f:α->Nat):∀ l:List α,(l.map fun x=>2*f x).sum=2*(l.map f).sum
 | []=>rfl
 | x :: xs=>by simp[Lx f xs,Nat.mul_add]
theorem Ic (p:α->Bool):∀ {ns:List α},ns.Nodup->((ns.filter p).map (De ns)).sum=Ao ns p
 | [],_=>rfl
 | y :: ys,hn=>by
   obtain⟨h1,h2⟩:=List.nodup_cons.mp hn
   have e:(ys.filter p).map (De (y :: ys))=(ys.filter p).map fun x=>2*De ys x:=by
    apply List.map_congr_left
    intro x hx
    have:x≠y:=fun q=>h1 (q ▸ (List.mem_filter.mp hx).1)
    show(if x=y then 1 else 2*De ys x)=_
    rw [if_neg this]
   unfold Ao
   rw[List.filter_cons]
   cases hp:p y with
   | true=>
     rw[if_pos rfl,List.map_cons,List.sum_cons,e,Lx,Ic p h2]
     show(if y=y then 1 else _)+_=_
     rw[if_pos rfl]
     rfl
   | false=>
     rw[if_neg (by decide),e,Lx,Ic p h2]
     simp[Bool.toNat]
theorem Lf {p:α->Bool}:∀ {ns:List α},ns.Nodup->∀ {x:α},x∈ns->p x=true->Ao ns p=Ao ns (fun y=>p y && !decide (y=x))+De ns x
 | [],_,x,h,_=>by cases h
 | y :: ys,hn,x,h,hp=>by
   obtain⟨h1,h2⟩:=List.nodup_cons.mp hn
   unfold De Ao
   by_cases e:x=y
   . subst e
     rw[if_pos rfl,hp,Hm (ns:=ys) (p:=fun y=>p y && !decide (y=x)) (q:=p) fun z hz=>?_]
     . simp[Bool.toNat];omega
     have:decide (z=x)=false:=decide_eq_false fun q=>h1 (q ▸ hz)
     simp[this]
   rw[if_neg e,Lf h2 ((List.mem_cons.mp h).resolve_left e) hp]
   have:decide (y=x)=false:=decide_eq_false fun q=>e q.symm
   show _=((p y && !decide (y=x)).toNat+_)+_
   rw[this]
   simp
   omega
def frF (b:α->α->Bool)(L:List α):List α:=L.filter fun x=>!(L.any fun y=>b y x)
def Aa (L:List α)(x:α):List α:=L.filter fun y=>!decide (y=x)
def ext (b:α->α->Bool):Nat->List α->List (List α)
 | 0,_=>[[]]
 | n+1,L=>(frF b L).flatMap fun x=>(ext b n (Aa L x)).map (x :: ·)
def cnt (b:α->α->Bool)(L:List α):Nat:=(ext b L.length L).length
theorem Ue (b:α->α->Bool):cnt b []=1:=rfl
theorem mem_frF {b:α->α->Bool}{L:List α}{x:α}:x∈frF b L↔x∈L/\∀ y∈L,b y x=false:=by
 unfold frF
 rw[List.mem_filter]
 constructor
 . rintro ⟨h1,h2⟩
   refine⟨h1,fun y hy=>?_⟩
   cases e:b y x with
   | false=>rfl
   | true=>
     have:(L.any fun y=>b y x)=true:=List.any_eq_true.mpr ⟨y,hy,e⟩
     rw[this] at h2
     cases h2
 rintro⟨h1,h2⟩
 refine⟨h1,?_⟩
 have:(L.any fun y=>b y x)=false:=by
  rw[Bool.eq_false_iff]
  intro h
  obtain⟨y,hy,e⟩:=List.any_eq_true.mp h
  rw[h2 y hy] at e
  cases e
 rw[this]
 rfl
theorem mem_lessF {L:List α}{x y:α}:y∈Aa L x↔y∈L/\y≠x:=by
 unfold Aa
 rw[List.mem_filter]
 simp
theorem Be {L:List α}(h:L.Nodup)(x:α):(Aa L x).Nodup:=List.Nodup.sublist (List.filter_sublist) h
theorem L8:∀ {L:List α} {x:α},x∉L->Aa L x=L:=fun {L x} h=>by
 unfold Aa
 rw[List.filter_eq_self]
 intro y hy
 have:y≠x:=fun q=>h (q ▸ hy)
 simp[this]
theorem B9:∀ {L:List α} {x:α},L.Nodup->x∈L->(Aa L x).length+1=L.length
 | [],_,_,h=>by cases h
 | y :: ys,x,hn,h=>by
   obtain⟨h1,h2⟩:=List.nodup_cons.mp hn
   by_cases e:y=x
   . subst e
     have:Aa (y :: ys) y=Aa ys y:=by unfold Aa;rw[List.filter_cons,if_neg (by simp)]
     rw[this,L8 h1]
     rfl
   have:Aa (y :: ys) x=y :: Aa ys x:=by unfold Aa;rw[List.filter_cons,if_pos (by simp[e])]
   rw[this,List.length_cons,B9 h2 ((List.mem_cons.mp h).resolve_left fun q=>e q.symm)]
   rfl
theorem Iv {b:α->α->Bool} {L:List α} (hn:L.Nodup) (hne:L≠[]):cnt b L=((frF b L).map fun x=>cnt b (Aa L x)).sum:=by
 unfold cnt
 cases hl:L.length with
 | zero=>exact absurd (List.length_eq_zero_iff.mp hl) hne
 | succ n=>
   show((frF b L).flatMap fun x=>(ext b n (Aa L x)).map (x :: ·)).length=_
   rw[List.length_flatMap]
   congr 1
   apply List.map_congr_left
   intro x hx
   have:=B9 hn (mem_frF.mp hx).1
   have e:(Aa L x).length=n:=by omega
   rw[List.length_map,e]
def Dc (ns row:List α):List α:=ns.filter fun x=>!decide (x∈row)
def Ec (b:α->α->Bool)(ns:List α)(rows:List (List α)):List (List α):=rows.flatMap fun row=>(frF b (Dc ns row)).map fun x=>row++[x]
def Dh (b:α->α->Bool)(ns:List α):Nat->List (List α)->List (List α)
 | 0,r=>r
 | k+1,r=>Dh b ns k (Ec b ns r)
theorem Em (b:α->α->Bool)(ns:List α):∀(k:Nat) (r:List (List α)),Dh b ns (k+1) r=Ec b ns (Dh b ns k r)
 | 0,r=>rfl
 | k+1,r=>Em b ns k (Ec b ns r)
theorem Hu (b:α->α->Bool)(ns:List α):∀(k:Nat) (r t:List (List α)),Dh b ns k (r++t)=Dh b ns k r++Dh b ns k t
 | 0,r,t=>rfl
 | k+1,r,t=>by
   show Dh b ns k (Ec b ns (r++t))=_
   have:Ec b ns (r++t)=Ec b ns r++Ec b ns t:=by unfold Ec;rw[List.flatMap_append]
   rw[this,Hu b ns k]
   rfl
theorem Mm (b:α->α->Bool)(ns:List α):∀ k:Nat,Dh b ns k []=[]
 | 0=>rfl
 | k+1=>Mm b ns k
theorem Mh (b:α->α->Bool)(ns:List α)(k:Nat)(f:α->List α):∀ l:List α,Dh b ns k (l.map f)=l.flatMap fun x=>Dh b ns k [f x]
 | []=>Mm b ns k
 | x :: xs=>by
   rw[List.map_cons,List.flatMap_cons,<- Mh b ns k f xs,<- Hu]
   rfl
theorem R9 (ns row:List α)(x:α):Dc ns (row++[x])=Aa (Dc ns row) x:=by
 unfold Dc Aa
 rw[List.filter_filter]
 apply List.filter_congr
 intro y _
 by_cases h:y∈row<;>by_cases e:y=x<;>simp[h,e]
theorem Ql (b:α->α->Bool)(ns:List α):∀(k:Nat) (row:List α),Dh b ns k [row]=(ext b k (Dc ns row)).map (row ++ ·)
 | 0,row=>by simp[Dh,ext]
 | k+1,row=>by
   show Dh b ns k (Ec b ns [row])=_
   have e:Ec b ns [row]=(frF b (Dc ns row)).map fun x=>row++[x]:=by unfold Ec;simp
   rw[e,Mh]
   show _=((frF b (Dc ns row)).flatMap fun x=>(ext b k (Aa (Dc ns row) x)).map (x :: ·)).map (row ++ ·)
   rw[List.map_flatMap]
   congr 1
   funext x
   rw[Ql b ns k,R9,List.map_map]
   congr 1
   funext r
   simp
theorem Uk (ns:List α):Dc ns []=ns:=by
 unfold Dc
 rw[List.filter_eq_self]
 simp
def fac:Nat->Nat
 | 0=>1
 | n+1=>fac n*(n+1)
theorem Xv {f g:α->Nat}:∀ {l:List α},(∀ x∈l,f x<=g x)->(l.map f).sum<=(l.map g).sum
 | [],_=>Nat.le_refl _
 | x :: xs,h=>by
   have h1:=h x (by simp)
   have h2:=Xv (l:=xs) (f:=f) (g:=g) fun y hy=>h y (by simp[hy])
   simp
   omega
theorem Qi (c:Nat)(f:α->Nat):∀ l:List α,(l.map fun x=>f x*c).sum=(l.map f).sum*c
 | []=>by simp
 | x :: xs=>by simp[Qi c f xs,Nat.add_mul]
theorem Jj {p q:α->Bool}:∀ {l:List α},(∀ a∈l,p a=true->q a=true)->(∃ z∈l,q z=true/\p z=false)->(l.filter p).length<(l.filter q).length
 | [],_,h=>by obtain⟨z,hz,_⟩:=h;cases hz
 | y :: ys,h,hz=>by
   have le:∀ l:List α,(∀ a∈l,p a=true->q a=true)->(l.filter p).length<=(l.filter q).length:=by
    intro l
    induction l with
    | nil=>intro _;exact Nat.le_refl _
    | cons a l ih=>
      intro h
      have:=ih fun a ha=>h a (by simp[ha])
      rw[List.filter_cons,List.filter_cons]
      cases c:p a with
      | true=>rw[if_pos rfl,if_pos (h a (by simp) c)];simpa using this
      | false=>
        rw[if_neg (by simp)]
        split
        . simp;omega
        exact this
   rw[List.filter_cons,List.filter_cons]
   obtain⟨z,hz,hq,hp⟩:=hz
   rcases List.mem_cons.mp hz with rfl | hz
   . rw[hp,if_neg (by simp),if_pos hq,List.length_cons]
     have:=le ys fun a ha=>h a (by simp[ha])
     omega
   have ih:=Jj (l:=ys) (fun a ha=>h a (by simp[ha])) ⟨z,hz,hq,hp⟩
   cases c:p y with
   | true=>rw[if_pos rfl,if_pos (h y (by simp) c)];simpa using ih
   | false=>
     rw[if_neg (by simp)]
     split
     . simp;omega
     exact ih
theorem Sz {b:α->α->Bool}(irr:∀ x,b x x=false)(tr:∀ x y z,b x y=true->b y z=true->b x z=true){L:List α}:∀(m:Nat) (y:α),y∈L->(L.filter fun z=>b z y).length<=m->∃ x∈frF b L,x=y\/b x y=true
 | m,y,hy,hm=>by
   by_cases c:∃ z∈L,b z y=true
   . obtain ⟨z,hz,hzy⟩:=c
     have lt:(L.filter fun a=>b a z).length<(L.filter fun a=>b a y).length:=Jj (fun a _ h=>tr a z y h hzy) ⟨z,hz,hzy,irr z⟩
     cases m with
     | zero=>omega
     | succ m=>
       obtain⟨x,hx,h⟩:=Sz irr tr m z hz (by omega)
       refine⟨x,hx,.inr ?_⟩
       rcases h with rfl | h
       . exact hzy
       exact tr x z y h hzy
   refine⟨y,mem_frF.mpr ⟨hy,fun z hz=>?_⟩,.inl rfl⟩
   cases e:b z y with
   | false=>rfl
   | true=>exact absurd ⟨z,hz,e⟩ c
theorem Vw {b:α->α->Bool} {L:List α} (h:L.Nodup):(frF b L).Nodup:=List.Nodup.sublist List.filter_sublist h
theorem ah2 {b:α->α->Bool}(irr:∀ x,b x x=false)(tr:∀ x y z,b x y=true->b y z=true->b x z=true){L:List α}(h:L≠[]):frF b L≠[]:=by
 cases L with
 | nil=>exact absurd rfl h
 | cons y ys=>
   obtain⟨x,hx,_⟩:=Sz irr tr (L:=y :: ys) _ y (by simp) (Nat.le_refl _)
   intro e
   rw[e] at hx
   cases hx
theorem Mu {f g:α->Nat}{l:List α}(h:∀ x∈l,f x=g x):(l.map f).sum=(l.map g).sum:=by
 rw[List.map_congr_left h]
end
def Mtd (P:Program)(w:World)(K:PySem.W.Frag)(mg:Str->Option Value)(base:Heap)(k:Nat)(C:Addr)(m:Str)(ps:List Str)(sp:Sp):Prop:=
 ∃ f fd,FnOk P w K mg base CX0 k f fd ps sp/\ah9 K C m f/\Binds K fd ps []
def Mkd (P:Program)(w:World)(K:PySem.W.Frag)(mg:Str->Option Value)(base:Heap)(k:Nat)(C:Addr)(x:Str)(ps:List Str)(sp:Sp):Prop:=
 ∃ f fd,FnOk P w K mg base CX0 k f fd ps sp/\Mk K C f/\mg x=some (.ref C)/\Binds K fd ps []
theorem FnOk.void {P:Program}{w:World}{K:PySem.W.Frag}{mg:Str->Option Value}{base:Heap}{CX:CXT}{k:Nat}{f:Addr}{fd:FuncData}{ps:List Str}{sp:Sp}(h:∀ vs H Q E,¬ sp vs H Q E):FnOk P w K mg base CX k f fd ps sp:=
 ⟨fun vs H Q E q=>absurd q (h vs H Q E),fun A outer s H args us vs Q E _ _ _ _ hs=>absurd hs (h vs H Q E)⟩
def rAt (f:Str)(C:Addr):V->Hp->VK->Prop:=fun x H Q=>∃ a dx fs v,x = .ref a/\H a=some (.ins C dx fs)/\fs.lookup f=some v/\Q v H
def tAt (f:Str)(C:Addr)(ta:TE):TE:=fun σ H Q=>ta σ H fun x H1=>rAt f C x H1 Q
def rSt (f:Str)(C:Addr)(y:V):V->Hp->(Hp->Prop)->Prop:=fun x H R=>∃ a dx fs,x = .ref a/\H a=some (.ins C dx fs)/\fs.length<1000/\R (upd H a (.ins C dx (Ju f y fs)))
def sSt (f:Str)(C:Addr)(ta tv:TE):TS:=fun D σ H=>tv σ H fun y H1=>ta σ H1 fun x H2=>rSt f C y x H2 fun H3=>D.nx σ H3
def rMe (m:Str)(C:Addr)(sp:Sp)(t:TA)(σ:St):V->Hp->VK->Prop:=fun x H Q=>∃ a dx fs,x = .ref a/\H a=some (.ins C dx fs)/\fs.lookup m=none/\t σ H fun vs H2=>sp (x :: (vs++[])) H2 Q E0
def tMe (m:Str)(C:Addr)(sp:Sp)(ta:TE)(t:TA):TE:=fun σ H Q=>ta σ H fun x H1=>rMe m C sp t σ x H1 Q
def rMk (C:Addr)(sp:Sp):List V->Hp->VK->Prop:=fun vs H1 Q=>∀ x dx,H1 x=none->H1 dx=none->dx≠x ->
 sp (.ref x :: (vs++[])) (upd (upd H1 dx (.own x)) x (.ins C dx [])) (fun v H2=>v = .non/\Q (.ref x) H2) E0
def tMk (C:Addr)(sp:Sp)(t:TA):TE:=fun σ H Q=>t σ H fun vs H1=>rMk C sp vs H1 Q
def am6 (ta:TE):TT:=fun σ H Q=>ta σ H fun x H1=>∃ i:Int,x = .int i/\Q (i != 0) H1
section
variable {X:Cx}{K:PySem.W.Frag}{k:Nat}{C:Addr}{f x m:Str}{ps:List Str}{sp:Sp}{e o value:Expr}{es:List Expr}{ta tv:TE}{t:TA}{p pos pos' apos:Pos}
theorem Fo (he:PE X e ta)(c:Cls X.K C)(n:NoAttr X.K C f)(hb:attributeBase e f X.env (eval e X.env)=eval e X.env):PE X (.Attribute e f pos) (tAt f C ta):=by
 intro pins s σ H Q I h
 refine a35 hb (thn (he pins s σ H _ I h) ?_)
 rintro u s1 ⟨x,H1,I1,rx,a,dx,fs,v,rfl,ea,l,q⟩
 cases rx
 exact Rr I1 ea c n l fun u' s2 I2 ru=>⟨v,H1,I2,ru,q⟩
theorem Ua (ha:PE X o ta)(hv:PE X value tv)(c:Cls X.K C)(n:NoAttr X.K C f)(hs:swapsWith value (some (.Attribute o f pos')) pos.line X.env=pure false):PS X (.Assign [.Attribute o f pos'] value pos) (sSt f C ta tv):=by
 intro pins s σ H D I h
 refine plainObj_wpAny_Assign_Attribute (thn (hv pins s σ H _ I h) ?_) hs
 rintro u s1 ⟨y,H1,I1,ry,q⟩
 refine thn (ha pins s1 σ H1 _ I1 q) ?_
 rintro ov s2 ⟨x,H2,I2,rx,a,dx,fs,rfl,ea,l,q2⟩
 cases rx
 exact Rq I2 ea c n l ry fun s3 I3=>⟨σ,_,I3,q2⟩
theorem Tj {pl:Sem Bool}(he:PE X o ta)(c:Cls X.K C)(F:Mtd X.prog X.w X.K X.mg X.base k C m ps sp)(hr:Room k X.A)(ha:PA X (e :: es) t)
  (hst:starEach (e :: es) X.env=(false,eval e X.env) :: starEach es X.env:=by ac_nf) (hpl:(backTo pos (starEach es X.env)).any (·.1)=false:=by ac_nf)
  (ht:eval (.Call (.Attribute o m apos) (e :: es) [] pos) X.env=(do
   let ov <- eval o X.env
   standAt apos.atName
   let (f,first) <- holding [ov] (getMethod ov m pl)
   callWith pos f first (backTo pos (starEach (e :: es) X.env)) (backToKw pos (keywordEach [] X.env))):=by ac_nf) :
  PE X (.Call (.Attribute o m apos) (e :: es) [] pos) (tMe m C sp ta t):=by
 obtain⟨f,fd,h1,h2,h3⟩:=F
 exact a52 (pl:=pl) he c h2 h1 hr h3 .nil Zz ha hst hpl ht
theorem ak4 (F:Mkd X.prog X.w X.K X.mg X.base k C x ps sp)(hr:Room (k+1) X.A)(hg:Gl X x)(ha:PA X (e :: es) t)(hdb:(x==("__debug__":Str))=false:=by decide)
  (he:starEach (e :: es) X.env=(false,eval e X.env) :: starEach es X.env:=by ac_nf) (hpl:(backTo pos (starEach es X.env)).any (·.1)=false:=by ac_nf) :
  PE X (.Call (.Name x p) (e :: es) [] pos) (tMk C sp t):=by
 obtain⟨f,fd,h1,h2,h3,h4⟩:=F
 exact a07 h2 h1 hr hg h3 h4 .nil Zz ha hdb he hpl
theorem Sa (ha:PE X e ta)(he:∀ whole,isTrue e X.env whole=(do let v <- whole;standAt e.pos;holding [v] (truthy v)):=by intro _;ac_nf):PT X e (am6 ta):=by
 intro pins s σ H Q I h
 refine isTrue_plain (thn (ha pins s σ H _ I h) ?_) (he _)
 rintro v s1 ⟨x,H1,I1,r1,i,rfl,q1⟩
 exact a87 pins s1 σ H1 _ v Q I1 r1 ⟨_,rfl,q1⟩
end
section
variable {K:PySem.W.Frag}{C:Addr}{f m:Str}{sp:Sp}{ta tv:TE}{t:TA}{σ:St}{H:Hp}{Q:VK}{D:Ka}
theorem i_tAt (k:ta σ H fun x H1=>rAt f C x H1 Q):tAt f C ta σ H Q:=k
theorem Lz {a dx:Addr}{fs:List (Str×V)}{v:V}(h:H a=some (.ins C dx fs))(l:fs.lookup f=some v)(k:Q v H):rAt f C (.ref a) H Q:=⟨a,dx,fs,v,rfl,h,l,k⟩
theorem i_sSt (k:tv σ H fun y H1=>ta σ H1 fun x H2=>rSt f C y x H2 fun H3=>D.nx σ H3):sSt f C ta tv D σ H:=k
theorem ag1 {a dx:Addr}{fs:List (Str×V)}{y:V}{R:Hp->Prop}(h:H a=some (.ins C dx fs))(hl:fs.length<1000)(k:∀ H',ExtBut a H H'->H' a=some (.ins C dx (Ju f y fs))->R H'):rSt f C y (.ref a) H R:=
 ⟨a,dx,fs,rfl,h,hl,k _ ExtBut.upd A9⟩
theorem i_tMe (k:ta σ H fun x H1=>rMe m C sp t σ x H1 Q):tMe m C sp ta t σ H Q:=k
theorem af2 {a dx:Addr}{fs:List (Str×V)}(h:H a=some (.ins C dx fs))(l:fs.lookup m=none)(k:t σ H fun vs H2=>sp (.ref a :: (vs++[])) H2 Q E0):rMe m C sp t σ (.ref a) H Q:=⟨a,dx,fs,rfl,h,l,k⟩
theorem i_tMk (k:t σ H fun vs H1=>rMk C sp vs H1 Q):tMk C sp t σ H Q:=k
theorem i_mk {vs:List V}(k:∀ x dx H2,H x=none->Same H H2->H2 x=some (.ins C dx [])->sp (.ref x :: (vs++[])) H2 (fun v H3=>v = .non/\Q (.ref x) H3) E0):rMk C sp vs H Q:=fun x dx hx hd hne=>
 k x dx _ hx (fun b o e=>by rw[Aq (ne_of_none e hx),Aq (ne_of_none e hd)];exact e) A9
theorem i_tTru {R:Bool->Hp->Prop}(k:ta σ H fun x H1=>∃ i:Int,x = .int i/\R (i != 0) H1):am6 ta σ H R:=k
theorem T9 {a:Addr}{kvs:List (Key×V)}{z:Int}{v:V}{R:Hp->Prop}(h:H a=some (.dK kvs))(hl:kvs.length<=1000000)(k:∀ H',ExtBut a H H'->H' a=some (.dK (Dv kvs (Sum.inl z) v))->R H'):∃ b H4,V.ref a = .ref b/\DPut H b (.int z) v H4/\R H4:=
 ⟨a,_,rfl,DPut.k (k:=Sum.inl z) h (by rw[sizeLine_eq];omega),k _ ExtBut.upd A9⟩
theorem Pl {a:Addr}{kvs:List (Key×V)}{z:Int}{v:V}(h:H a=some (.dK kvs))(e:Cg kvs (Sum.inl z:Key)=some v)(k:Q v H):Jx K (.ref a) (.int z) H Q:=.inr ⟨a,v,rfl,by rw[<- e];exact DGet.k (k:=Sum.inl z) h,k⟩
theorem Zo {a:Addr}{kvs:List (Key×V)}{z:Int}(h:H a=some (.dK kvs))(k:Q (.bl (Cg kvs (Sum.inl z:Key)).isNone) H):Wq K true (.int z) (.ref a) H Q:=by
 refine .inr (.inr (.inl ⟨a,Cg kvs (Sum.inl z:Key),rfl,DGet.k (k:=Sum.inl z) h,?_⟩))
 cases e:Cg kvs (Sum.inl z:Key) with
 | none=>rw[e] at k;exact k
 | some v=>rw[e] at k;exact k
end
def a59 (d v:Addr):HO:=.ext fun h=>h.IsValuesView v d
def ad3:V->List V->Hp->VK->Prop:=fun x vs H Q=>∃ d kvs,x = .ref d/\vs=[]/\H d=some (.dK kvs)/\∀ v,H v=none->Q (.ref v) (upd H v (a59 d v))
def ab7:List V->Hp->VK->Prop:=fun xs H Q=>∃(v d:Addr) (kvs:List (Key×V)) (ns:List Int),xs=[.ref v]/\H v=some (a59 d v)/\H d=some (.dK kvs)/\kvs.map (·.2)=ns.map V.int/\(∀ n∈ns,0<=n/\n<=1000000000000)/\ns.length<=1000000/\Q (.int ns.sum) H
section
variable {X:Cx}{K:PySem.W.Frag}
theorem T1:MtM X "dict.values" ad3:=by
 intro pins s σ H x vs v us Q I rx rv h
 obtain⟨d,kvs,rfl,rfl,hD,q⟩:=h
 cases rx
 cases rv
 obtain⟨z1,hd1,vs1,rel1,dd1⟩:=Mb I.hok hD
 refine call_meetsIn F.slot_dict_values dd1.typeIs F.entry_dict_values (F.args_dict_values_1 _) (meets_dict_values (Ap X.prog X.w) d hd1) ⟨⟨vs1,dd1⟩,?_⟩
 refine ⟨.ref s.heap.objs.size,upd H s.heap.objs.size (a59 d s.heap.objs.size),I.laid (t':=s.toks) (fun b u e=>Heap.get?_push_of_some _ e) (Nat.le_refl _) ⟨⟨_,Heap.get?_push_size _ rfl,rfl,rfl⟩,⟨_,Heap.get?_push_size _ rfl⟩,fun h1 h2 ⟨o,e,r⟩ hk=>⟨o,hk o e,r⟩⟩,rfl,q _ (I.hok.fresh (Nat.le_refl _))⟩
theorem Su {α β:Type}{F:α->β->Prop}{l₁:List α}{l₂:List β}(h:Paired F l₁ l₂):∀ {i:Nat} {a:α},l₁[i]? = some a->∃ b,l₂[i]? = some b/\F a b:=by
 induction h with
 | nil=>intro i a e;cases e
 | cons r _ ih=>
   intro i a e
   cases i with
   | zero=>cases e;exact⟨_,rfl,r⟩
   | succ i=>exact ih e
theorem Z1 {ns:List Int}{kvs:List (Key×V)}{vs:List (Key×Value)}(rel:KV kvs vs)(h:kvs.map (·.2)=ns.map V.int){i:Nat}{k:Key}{u:Value}(hx:vs[i]? = some (k,u)):∃ t,u = .int (ns.getD i 0) t:=by
 have hl:kvs.length=vs.length:=rel.length
 have hn:kvs.length=ns.length:=by have:=congrArg List.length h;rwa[List.length_map,List.length_map] at this
 have hi:i<vs.length:=(List.getElem?_eq_some_iff.mp hx).1
 have hk:kvs[i]? = some kvs[i]:=List.getElem?_eq_getElem (by omega)
 obtain⟨q,hq,r⟩:=Su rel hk
 rw[hx] at hq
 cases hq
 have e:(kvs.map (·.2))[i]? = some kvs[i].2:=by rw[List.getElem?_map,hk];rfl
 rw[h,List.getElem?_map,Ee (y:=0) (by omega:i<ns.length)] at e
 have e2:V.int (ns.getD i 0)=kvs[i].2:=Option.some.inj e
 have r2:=r.2
 rw[<- e2] at r2
 exact r2
theorem Ub (hc:X.calm=true):CallR X (.builtin "sum") ab7:=by
 intro pins s σ H xs us Q I r h
 obtain⟨v,d,kvs,ns,rfl,hv,hd,hns,hb,hz,q⟩:=h
 obtain⟨u,rfl,ru⟩:=Gi r
 cases ru
 have fits:∀ j,j<ns.length->InLong (ns.getD j 0)/\InLong (preSum (fun i=>ns.getD i 0) (j+1)):=fun j hj=>by
  have h1:=hb _ (List.mem_of_getElem? (Ee (y:=0) hj))
  have h2:=Jt (ns:=ns.take (j+1)) fun n hn=>hb n (List.mem_of_mem_take hn)
  rw[Dt ns (j+1) hj]
  rw[List.length_take] at h2
  unfold InLong
  omega
 have last:preSum (fun i=>ns.getD i 0) ns.length=ns.sum:=by rw[Dt ns _ (Nat.le_refl _),List.take_length]
 obtain⟨_,hs,vs,rel,dd⟩:=Mb I.hok hd
 obtain⟨ep,hat⟩:=dd.dictAt
 have vv:s.heap.IsValuesView v d:=(show ObjOk X.prog X.w H s.heap v (a59 d v) from I.hok v _ hv).1
 have hlt:d<s.heap.objs.size:=I.hok.lt hd
 have hn:vs.length=ns.length:=by
  have:=congrArg List.length hns
  rw[List.length_map,List.length_map] at this
  have:=rel.length
  omega
 refine call_sum_walk ?_
 obtain⟨oI,St,hit,W,st⟩:=(PySem.W.kdl_values (knd:=Ap X.prog X.w) (r:=v) (d:=d) (kvs:=vs) (ep:=ep)).iter X.A.in1 s (by simpa using I.ok.hd hc) ⟨vv,hat⟩
 refine hit _ _ ?_
 refine⟨s.heap.objs.size,_,_,_,_,_,fun i=>ns.getD i 0,rfl,W,st,?_,?_,by rw[hn];exact fits,?_⟩
 . intro b hb'
   rw[Heap.size_push]
   simp only[List.mem_cons,List.not_mem_nil,or_false] at hb'
   rcases hb' with rfl | rfl
   . exact Nat.lt_succ_self _
   exact Nat.lt_succ_of_lt hlt
 . rintro i u ⟨k,hx⟩
   exact Z1 rel hns hx
 intro h' tk t' hk
 refine⟨.int ns.sum,H,I.kept (t':=tk) ?_,⟨t',by rw[hn,last]⟩,q⟩
 intro b o e
 refine hk b o (fun z=>?_) (Heap.get?_push_of_some _ e)
 have:b=s.heap.objs.size:=by simpa using z
 subst this
 exact absurd (Heap.lt_size e) (Nat.lt_irrefl _)
theorem ab0 {d:Addr}{kvs:List (Key×V)}{H:Hp}{Q:VK}(h:H d=some (.dK kvs))(k:∀ v H',H v=none->Same H H'->H' v=some (a59 d v)->Q (.ref v) H'):ad3 (.ref d) [] H Q:=⟨d,kvs,rfl,rfl,h,fun v hv=>k v _ hv (Same.upd hv) A9⟩
theorem ac6 {v d:Addr}{kvs:List (Key×V)}{ns:List Int}{H:Hp}{Q:VK}(hv:H v=some (a59 d v))(hd:H d=some (.dK kvs))(hns:kvs.map (·.2)=ns.map V.int)(hb:∀ n∈ns,0<=n/\n<=1000000000000)(hz:ns.length<=1000000)(k:Q (.int ns.sum) H):ab7 [.ref v] H Q:=
 ⟨v,d,kvs,ns,rfl,hv,hd,hns,hb,hz,k⟩
end
theorem Mn {α β:Type}{F:α->β->Prop}:∀ {l₁:List α} {l₂:List β},l₁.length=l₂.length->(∀(i:Nat) a b,l₁[i]? = some a->l₂[i]? = some b->F a b)->Paired F l₁ l₂
 | [],[],_,_=>.nil
 | a :: l₁,b :: l₂,hl,h=>.cons (h 0 a b rfl rfl) (Mn (by simpa using hl) fun i x y hx hy=>h (i+1) x y hx hy)
section
variable {X:Cx}
end
section
variable {α:Type}[DecidableEq α]
theorem a08 (a b:Nat):Builtin.bitAnd (a:Int) (b:Int)=((a &&& b:Nat):Int):=by
 rw[bitAnd_pp (Int.natCast_nonneg _) (Int.natCast_nonneg _)]
 simp
theorem W8 (p q:α->Bool)(ns:List α):(Builtin.bitAnd (Ao ns p:Int) (Ao ns q:Int) != 0)=ns.any fun x=>p x&&q x:=by
 rw[a08,Qk]
 cases e:ns.any fun x=>p x&&q x with
 | true=>
   obtain⟨x,hx,h⟩:=List.any_eq_true.mp e
   have:Ao ns (fun x=>p x&&q x)≠0:=fun z=>by
    have:=binM_zero.mp z x hx
    rw[this] at h
    cases h
   simp only[bne_iff_ne,ne_eq]
   omega
 | false=>
   have:Ao ns (fun x=>p x&&q x)=0:=binM_zero.mpr fun x hx=>by
    cases c:(p x&&q x) with
    | false=>rfl
    | true=>rw[List.any_eq_true.mpr ⟨x,hx,c⟩] at e;cases e
   rw[this]
   rfl
theorem Ss {ns:List α} (hn:ns.Nodup) {x:α} (hx:x∈ns) (q:α->Bool):(Builtin.bitAnd (De ns x:Int) (Ao ns q:Int) != 0)=q x:=by
 rw[Td hn hx,W8]
 cases c:q x with
 | true=>exact List.any_eq_true.mpr ⟨x,hx,by simp[c]⟩
 | false=>
   rw[Bool.eq_false_iff]
   intro h
   obtain⟨y,_,hy⟩:=List.any_eq_true.mp h
   rw[Bool.and_eq_true,decide_eq_true_iff] at hy
   rw[hy.1,c] at hy
   cases hy.2
theorem R4 (ns:List α)(p q:α->Bool):(ns.any fun x=>p x&&q x)=(ns.filter q).any p:=by
 induction ns with
 | nil=>rfl
 | cons y ys ih=>
   rw[List.any_cons,ih,List.filter_cons]
   cases c:q y with
   | true=>rw[if_pos rfl,List.any_cons,Bool.and_true]
   | false=>rw[if_neg (by decide),Bool.and_false,Bool.false_or]
theorem Sm (b:α->α->Bool)(ns:List α)(q:α->Bool):(ns.filter fun x=>q x && !(ns.any fun y=>b y x&&q y))=frF b (ns.filter q):=by
 unfold frF
 rw[List.filter_filter]
 apply List.filter_congr
 intro x _
 rw[R4,Bool.and_comm]
theorem C2 (ns:List α)(q:α->Bool)(x:α):(ns.filter fun y=>q y && !decide (y=x))=Aa (ns.filter q) x:=by
 unfold Aa
 rw[List.filter_filter]
 apply List.filter_congr
 intro y _
 rw[Bool.and_comm]
theorem Qp {m n:Nat}(h:m<=n):fac m<=fac n:=by
 induction h with
 | refl=>exact Nat.le_refl _
 | @step k _ ih=>exact Nat.le_trans ih (Nat.le_mul_of_pos_right _ (Nat.succ_pos k))
theorem Mx (c:Nat):∀ l:List α,(l.map fun _=>c).sum=l.length*c
 | []=>by simp
 | x :: xs=>by rw[List.map_cons,List.sum_cons,Mx c xs,List.length_cons,Nat.add_mul,Nat.one_mul,Nat.add_comm]
theorem Qm (b:α->α->Bool):∀(n:Nat) (L:List α),L.length=n->L.Nodup->cnt b L<=fac n
 | 0,L,hl,_=>by
   have:=List.length_eq_zero_iff.mp hl
   subst this
   exact Nat.le_refl _
 | n+1,L,hl,hn=>by
   have hne:L≠[]:=by intro e;rw[e] at hl;cases hl
   rw[Iv hn hne]
   have h1:((frF b L).map fun x=>cnt b (Aa L x)).sum<=((frF b L).map fun _=>fac n).sum:=Xv fun x hx=>by
    have:=B9 hn (mem_frF.mp hx).1
    exact Qm b n (Aa L x) (by omega) (Be hn x)
   rw[Mx] at h1
   refine Nat.le_trans h1 ?_
   show _<=fac n*(n+1)
   rw[Nat.mul_comm]
   refine Nat.mul_le_mul_left _ ?_
   rw[<- hl]
   exact List.length_filter_le _ _
theorem Ky {b:α->α->Bool}{L:List α}(hn:L.Nodup)(h:L.length<=10):cnt b L<=3628800:=Nat.le_trans (Qm b _ L rfl hn) (Nat.le_trans (Qp h) (by decide))
end
def a54 (ns:List Str):List (Key×V):=ns.map fun x=>((Sum.inr x:Key),V.int ((De ns x:Nat):Int))
def ahK (ns:List Str)(ps:List (Str×Str)):List (Key×V):=ns.map fun x=>((Sum.inr x:Key),V.int ((Ao ns (fun y=>Ae ps y x):Nat):Int))
theorem Eb {f:Str->V}:∀ {ns:List Str} {x:Str},x∈ns->Cg (ns.map fun x=>((Sum.inr x:Key),f x)) (Sum.inr x:Key)=some (f x)
 | [],x,h=>by cases h
 | y :: ys,x,h=>by
   rw[List.map_cons]
   by_cases e:y=x
   . subst e
     exact Ax rfl
   rw[Aw fun q=>e (Sum.inr.inj q)]
   exact Eb ((List.mem_cons.mp h).resolve_left fun q=>e q.symm)
theorem Fq {f:Str->V}:∀ {ns:List Str} {x:Str},x∉ns->Cg (ns.map fun x=>((Sum.inr x:Key),f x)) (Sum.inr x:Key)=none
 | [],x,h=>rfl
 | y :: ys,x,h=>by
   rw[List.map_cons,Aw fun q=>h (by rw[<- Sum.inr.inj q];simp)]
   exact Fq fun q=>h (List.mem_cons_of_mem _ q)
theorem J1:∀ {ns:List Str} {i:Nat} {x:Str},ns.Nodup->ns[i]? = some x->De ns x=2 ^ i
 | [],i,x,_,h=>by cases h
 | y :: ys,0,x,_,h=>by
   cases h
   unfold De
   rw[if_pos rfl]
 | y :: ys,i+1,x,hn,h=>by
   obtain⟨h1,h2⟩:=List.nodup_cons.mp hn
   have hx:ys[i]? = some x:=h
   unfold De
   rw[if_neg fun q=>h1 (by rw[<- q];exact List.mem_of_getElem? hx),J1 h2 hx,Nat.pow_succ,Nat.mul_comm]
theorem IsL.int_eq {K:PySem.W.Frag}{H:Hp}:∀ {ns:List Int} {vs:List V},IsL K H (ns.map PyData.int) vs->vs=ns.map V.int
 | [],vs,h=>by simp only[List.map_nil,IsL] at h;exact h
 | n :: ns,vs,h=>by
   simp only[List.map_cons,IsL,Is] at h
   obtain⟨v,r,rfl,rfl,e3⟩:=h
   rw[IsL.int_eq e3]
   rfl
theorem Im {α:Type}(f:α->Nat):∀ l:List α,(l.map fun x=>((f x:Nat):Int)).sum=(((l.map f).sum:Nat):Int)
 | []=>rfl
 | x :: xs=>by rw[List.map_cons,List.sum_cons,Im f xs,List.map_cons,List.sum_cons];omega
theorem ExtBut.fzI {p:Addr}{H H':Hp}{C dx:Addr}{fs:List (Str×V)}(e:ExtBut p H H')(hp:H p=some (.ins C dx fs)):Fz H H':=Qz e fun xs h=>by
 rcases h with h | ⟨o,h⟩
 . rw[hp] at h;cases h
 rw[hp] at h;cases h
def Knw (ns:List Str) (ps:List (Str×Str)) (kvs:List (Key×V)):Prop:=(kvs.map (·.1)).Nodup /\
 (∀ kv∈kvs,∃ q:Str->Bool,kv.1=Sum.inl ((Ao ns q:Nat):Int)/\kv.2=V.int ((cnt (Ae ps) (ns.filter q):Nat):Int))/\Cg kvs (Sum.inl 0:Key)=some (.int 1)
theorem Kp {κ:Type}[DecidableEq κ]:∀ {kvs:List (κ×V)} {k:κ} {v:V},Cg kvs k=some v->(k,v)∈kvs
 | [],k,v,h=>by cases h
 | p :: r,k,v,h=>by
   by_cases e:p.1=k
   . rw[Ax e] at h
     cases h
     rw[<- e]
     exact List.mem_cons_self
   rw[Aw e] at h
   exact List.mem_cons_of_mem _ (Kp h)
theorem Knw.get {ns:List Str}{ps:List (Str×Str)}{kvs:List (Key×V)}(h:Knw ns ps kvs){q:Str->Bool}{v:V}(e:Cg kvs (Sum.inl ((Ao ns q:Nat):Int):Key)=some v):v = .int ((cnt (Ae ps) (ns.filter q):Nat):Int):=by
 obtain⟨q',h1,h2⟩:=h.2.1 _ (Kp e)
 have h3:Ao ns q'=Ao ns q:=by
  have:=Sum.inl.inj h1
  omega
 have h4:ns.filter q'=ns.filter q:=List.filter_congr fun x hx=>Gs h3 x hx
 rw[h4] at h2
 exact h2
theorem Knw.len {ns:List Str}{ps:List (Str×Str)}{kvs:List (Key×V)}(h:Knw ns ps kvs)(hf:ns.length<=10):kvs.length<=1024:=by
 have:=Ef (ys:=(List.range 1024).map fun i=>(Sum.inl ((i:Nat):Int):Key)) h.1 fun k hk=>by
  obtain⟨kv,hkv,rfl⟩:=List.mem_map.mp hk
  obtain⟨q,h1,_⟩:=h.2.1 kv hkv
  rw[h1]
  have h2:=Oi q ns
  have h3:(2:Nat) ^ ns.length<=2 ^ 10:=Nat.pow_le_pow_right (by decide) hf
  exact List.mem_map.mpr ⟨Ao ns q,List.mem_range.mpr (by omega),rfl⟩
 rwa [List.length_map,List.length_map,List.length_range] at this
theorem Knw.put {ns:List Str}{ps:List (Str×Str)}{kvs:List (Key×V)}(h:Knw ns ps kvs)(q:Str->Bool) :
  Knw ns ps (Dv kvs (Sum.inl ((Ao ns q:Nat):Int)) (.int ((cnt (Ae ps) (ns.filter q):Nat):Int))):=by
 cases e:Cg kvs (Sum.inl ((Ao ns q:Nat):Int):Key) with
 | some v=>
   have hp:Dv kvs (Sum.inl ((Ao ns q:Nat):Int):Key) (.int ((cnt (Ae ps) (ns.filter q):Nat):Int))=kvs:=by
    unfold Dv
    rw[Fb,e,if_pos (show(some v).isSome=true from rfl)]
    conv=>rhs;rw[<- List.map_id kvs]
    apply List.map_congr_left
    intro kv hkv
    by_cases c:kv.1=Sum.inl ((Ao ns q:Nat):Int)
    . rw[if_pos c]
      obtain⟨q',h1,h2⟩:=h.2.1 kv hkv
      rw[h1] at c
      have h3:Ao ns q'=Ao ns q:=by
       have:=Sum.inl.inj c
       omega
      have h4:ns.filter q'=ns.filter q:=List.filter_congr fun x hx=>Gs h3 x hx
      rw[<- h4,<- h2]
      rfl
    rw[if_neg c]
    rfl
   rw[hp]
   exact h
 | none=>
   refine⟨a37 _ h.1 e,fun kv hkv=>?_,?_⟩
   . rw[Gy _ e] at hkv
     rcases List.mem_append.mp hkv with hkv | hkv
     . exact h.2.1 kv hkv
     have:kv=(Sum.inl ((Ao ns q:Nat):Int),V.int ((cnt (Ae ps) (ns.filter q):Nat):Int)):=by simpa using hkv
     subst this
     exact⟨q,rfl,rfl⟩
   rw[Xd]
   by_cases c:(Sum.inl 0:Key)=Sum.inl ((Ao ns q:Nat):Int)
   . rw[<- c,h.2.2] at e
     cases e
   rw[if_neg c]
   exact h.2.2
theorem Knw.new (ns:List Str)(ps:List (Str×Str)):Knw ns ps [(Sum.inl 0,V.int 1)]:=by
 refine⟨by simp,fun kv hkv=>?_,Ax rfl⟩
 have:kv=(Sum.inl 0,V.int 1):=by simpa using hkv
 subst this
 refine⟨fun _=>false,?_,?_⟩
 . rw[binM_zero.mpr fun _ _=>rfl]
   rfl
 have:ns.filter (fun _=>false)=[]:=by simp
 rw[this,Ue]
 rfl
structure WaysAt (K:PySem.W.Frag)(C:Addr)(H:Hp)(p dx:Addr)(nv:V)(bd ad kd:Addr)(ns:List Str)(ps:List (Str×Str))(kvs:List (Key×V)):Prop where
 ob:H p=some (.ins C dx [("names",nv),("bits",.ref bd),("ahead",.ref ad),("full",.int ((Ao ns (fun _=>true):Nat):Int)),("known",.ref kd)])
 nm:Is K H (nmD ns) nv
 bt:H bd=some (.dK (a54 ns))
 ah:H ad=some (.dK (ahK ns ps))
 kn:H kd=some (.dK kvs)
 nb:bd≠kd
 na:ad≠kd
 ok:Knw ns ps kvs
section
variable {K:PySem.W.Frag}{C:Addr}{H H':Hp}{p dx:Addr}{nv:V}{bd ad kd:Addr}{ns:List Str}{ps:List (Str×Str)}{kvs kvs':List (Key×V)}
theorem WaysAt.same (h:WaysAt K C H p dx nv bd ad kd ns ps kvs)(e:Same H H'):WaysAt K C H' p dx nv bd ad kd ns ps kvs:=
 ⟨e _ _ h.ob,h.nm.nm_fz e.fz,e _ _ h.bt,e _ _ h.ah,e _ _ h.kn,h.nb,h.na,h.ok⟩
theorem WaysAt.pk (h:WaysAt K C H p dx nv bd ad kd ns ps kvs):p≠kd:=ne_of h.ob h.kn (by intro z;cases z)
theorem WaysAt.put (h:WaysAt K C H p dx nv bd ad kd ns ps kvs)(e:ExtBut kd H H')(hk:H' kd=some (.dK kvs'))(ok:Knw ns ps kvs'):WaysAt K C H' p dx nv bd ad kd ns ps kvs':=
 ⟨e _ _ h.pk h.ob,h.nm.nm_fz (e.fzD h.kn),e _ _ h.nb h.bt,e _ _ h.na h.ah,hk,h.nb,h.na,ok⟩
theorem WaysAt.list {l:Addr}{xs:List V}(h:WaysAt K C H p dx nv bd ad kd ns ps kvs)(e:ExtBut l H H')(hl:H l=some (.lst xs)):WaysAt K C H' p dx nv bd ad kd ns ps kvs:=
 ⟨e _ _ (ne_of h.ob hl (by intro z;cases z)) h.ob,h.nm.nm_fz (e.fzL hl),e _ _ (ne_of h.bt hl (by intro z;cases z)) h.bt,e _ _ (ne_of h.ah hl (by intro z;cases z)) h.ah,e _ _ (ne_of h.kn hl (by intro z;cases z)) h.kn,h.nb,h.na,h.ok⟩
end
theorem Pq {ns:List Str}{ps:List (Str×Str)}(h:HalfW ns ps)(x:Str):Ae ps x x=false:=Hk (h.irr x)
theorem Oe {ps:List (Str×Str)}(x y z:Str)(h:Ae ps x y=true)(g:Ae ps y z=true):Ae ps x z=true:=wayB_iff.mpr ((wayB_iff.mp h).trans (wayB_iff.mp g))
section
variable {α:Type}[DecidableEq α]
theorem Ip (b:α->α->Bool)(ns:List α):∀ rows:List (List α),(Ec b ns rows).length<=rows.length*ns.length
 | []=>by simp[Ec]
 | r :: rs=>by
   have ih:=Ip b ns rs
   have e:Ec b ns (r :: rs)=((frF b (Dc ns r)).map fun x=>r++[x])++Ec b ns rs:=by unfold Ec;rw[List.flatMap_cons]
   have h1:(frF b (Dc ns r)).length<=ns.length:=Nat.le_trans (List.length_filter_le _ _) (List.length_filter_le _ _)
   rw[e,List.length_append,List.length_map,List.length_cons,Nat.add_mul,Nat.one_mul]
   omega
theorem Np (b:α->α->Bool)(ns:List α):∀ i:Nat,(Dh b ns i [[]]).length<=ns.length ^ i
 | 0=>Nat.le_refl _
 | i+1=>by
   rw[Em,Nat.pow_succ]
   exact Nat.le_trans (Ip b ns _) (Nat.mul_le_mul_right _ (Np b ns i))
theorem R1 (b:α->α->Bool)(ns:List α){rows:List (List α)}{j:Nat}{row:List α}(h:rows[j]? = some row):Ec b ns (rows.take (j+1))=Ec b ns (rows.take j)++(frF b (Dc ns row)).map fun x=>row++[x]:=by
 rw[List.take_add_one,h]
 unfold Ec
 rw[List.flatMap_append]
 simp
theorem K4 (b:α->α->Bool)(ns:List α)(rows:List (List α))(j:Nat)(h:ns.length<=6)(hr:rows.length<=46656):(Ec b ns (rows.take j)).length<=279936:=by
 have h1:=Ip b ns (rows.take j)
 have h2:(rows.take j).length<=46656:=Nat.le_trans (List.length_take_le' _ _) hr
 have h3:=Nat.mul_le_mul h2 h
 omega
theorem Mp (b:α->α->Bool)(ns:List α):∀(i:Nat) (row:List α),row∈Dh b ns i [[]]->row.length=i
 | 0,row,h=>by
   have:row=[]:=by simpa[Dh] using h
   subst this
   rfl
 | i+1,row,h=>by
   rw[Em] at h
   unfold Ec at h
   obtain⟨r,hr,hx⟩:=List.mem_flatMap.mp h
   obtain⟨x,_,rfl⟩:=List.mem_map.mp hx
   rw[List.length_append,Mp b ns i r hr]
   rfl
theorem a53 {i m:Nat}(hm:m<=6)(hi:i<=6):m ^ i<=46656:=by
 have h1:m ^ i<=6 ^ i:=Nat.pow_le_pow_left hm i
 have h2:(6:Nat) ^ i<=6 ^ 6:=Nat.pow_le_pow_right (by decide) hi
 have h3:(6:Nat) ^ 6=46656:=by decide
 omega
end
theorem Way.last {ps:List (Str×Str)}{x y:Str}(h:Way ps x y):∃ m,(m,y)∈ps/\(x=m\/Way ps x m):=by
 induction h with
 | one e=>exact⟨_,e,.inl rfl⟩
 | cons e _ ih=>
   obtain⟨m,h1,h2⟩:=ih
   refine⟨m,h1,.inr ?_⟩
   rcases h2 with rfl | h2
   . exact .one e
   exact .cons e h2
section
variable {α:Type}[DecidableEq α]
end
def Fg (ns:List Str)(ct:List ((Str->Bool)×Nat)):List (Key×V):=ct.map fun e=>((Sum.inl ((Ao ns e.1:Nat):Int):Key),V.int ((e.2:Nat):Int))
def Er (ns:List Str)(F:List Str->Nat)(ct:List ((Str->Bool)×Nat)):Nat:=(ct.map fun e=>e.2*F (ns.filter e.1)).sum
def Li (ns:List Str)(ct:List ((Str->Bool)×Nat)):Prop:=((Fg ns ct).map (·.1)).Nodup
theorem Bi (ns:List Str)(F:List Str->Nat)(e:(Str->Bool)×Nat)(r:List ((Str->Bool)×Nat)):Er ns F (e :: r)=e.2*F (ns.filter e.1)+Er ns F r:=by unfold Er;rw[List.map_cons,List.sum_cons]
theorem Z8 {p:Key×V}{r:List (Key×V)}{k:Key}{v:V}(h:¬ p.1=k):Dv (p :: r) k v=p :: Dv r k v:=by
 unfold Dv
 rw[List.any_cons,decide_eq_false h,Bool.false_or]
 by_cases c:(r.any fun kv=>decide (kv.1=k))=true
 . rw[if_pos c,if_pos c,List.map_cons,if_neg h]
 rw[if_neg c,if_neg c]
 rfl
theorem Yy {p:Key×V}{r:List (Key×V)}{v:V}(h:p.1∉r.map (·.1)):Dv (p :: r) p.1 v=(p.1,v) :: r:=by
 unfold Dv
 rw[List.any_cons,decide_eq_true rfl,Bool.true_or,if_pos rfl,List.map_cons,if_pos rfl]
 congr 1
 conv=>rhs;rw[<- List.map_id r]
 apply List.map_congr_left
 intro kv hkv
 rw[if_neg fun q=>h (List.mem_map.mpr ⟨kv,hkv,q⟩)]
 rfl
theorem Vx (ns:List Str) (q:Str->Bool) (c:Nat):∀ {ct:List ((Str->Bool)×Nat)},Li ns ct->∃(k0:Nat) (ct':List ((Str->Bool)×Nat)),
  (Cg (Fg ns ct) (Sum.inl ((Ao ns q:Nat):Int):Key)).getD (.int 0) = .int ((k0:Nat):Int)/\Fg ns ct'=Dv (Fg ns ct) (Sum.inl ((Ao ns q:Nat):Int)) (.int (((k0+c:Nat)):Int)) /\
  (∀ k,k∈(Fg ns ct').map (·.1)↔k∈(Fg ns ct).map (·.1)\/k=Sum.inl ((Ao ns q:Nat):Int))/\Li ns ct'/\∀ F,Er ns F ct'=Er ns F ct+c*F (ns.filter q)
 | [],_=>⟨0,[(q,c)],rfl,by rw[Nat.zero_add];rfl,fun k=>by simp[Fg],by unfold Li Fg;simp,fun F=>by unfold Er;simp⟩
 | e :: r,h=>by
   have h:((Sum.inl ((Ao ns e.1:Nat):Int):Key) :: (Fg ns r).map (·.1)).Nodup:=h
   obtain⟨h1,h2⟩:=List.nodup_cons.mp h
   by_cases c1:Ao ns e.1=Ao ns q
   . have hf:ns.filter e.1=ns.filter q:=List.filter_congr fun x hx=>Gs c1 x hx
     refine⟨e.2,(e.1,e.2+c) :: r,?_,?_,fun k=>?_,h,fun F=>?_⟩
     . show(Cg ((Sum.inl ((Ao ns e.1:Nat):Int),V.int ((e.2:Nat):Int)) :: Fg ns r) _).getD _=_
       rw[Ax (by rw[c1])]
       rfl
     . show(Sum.inl ((Ao ns e.1:Nat):Int),V.int ((e.2+c:Nat):Int)) :: Fg ns r=Dv ((Sum.inl ((Ao ns e.1:Nat):Int),V.int ((e.2:Nat):Int)) :: Fg ns r) _ _
       rw[<- c1,Yy (p:=(Sum.inl ((Ao ns e.1:Nat):Int),V.int ((e.2:Nat):Int))) h1]
     . show k∈(Sum.inl ((Ao ns e.1:Nat):Int):Key) :: (Fg ns r).map (·.1)↔k∈(Sum.inl ((Ao ns e.1:Nat):Int):Key) :: (Fg ns r).map (·.1)\/_
       constructor
       . exact .inl
       rintro(h | h)
       . exact h
       rw[h,c1]
       simp
     rw[Bi,Bi]
     show(e.2+c)*F (ns.filter e.1)+_=_
     rw[hf,Nat.add_mul]
     omega
   have hk:¬ (Sum.inl ((Ao ns e.1:Nat):Int):Key)=Sum.inl ((Ao ns q:Nat):Int):=fun z=>c1 (by have:=Sum.inl.inj z;omega)
   obtain⟨k0,ct',g1,g2,g3,g4,g5⟩:=Vx ns q c h2
   refine⟨k0,e :: ct',?_,?_,fun k=>?_,?_,fun F=>?_⟩
   . show(Cg ((Sum.inl ((Ao ns e.1:Nat):Int),V.int ((e.2:Nat):Int)) :: Fg ns r) _).getD _=_
     rw[Aw hk]
     exact g1
   . show(Sum.inl ((Ao ns e.1:Nat):Int),V.int ((e.2:Nat):Int)) :: Fg ns ct'=Dv ((Sum.inl ((Ao ns e.1:Nat):Int),V.int ((e.2:Nat):Int)) :: Fg ns r) _ _
     rw[Z8 hk,g2]
   . show k∈(Sum.inl ((Ao ns e.1:Nat):Int):Key) :: (Fg ns ct').map (·.1)↔k∈(Sum.inl ((Ao ns e.1:Nat):Int):Key) :: (Fg ns r).map (·.1)\/_
     rw[List.mem_cons,List.mem_cons,g3]
     constructor
     . rintro(h | h | h)
       . exact .inl (.inl h)
       . exact .inl (.inr h)
       exact .inr h
     rintro((h | h) | h)
     . exact .inl h
     . exact .inr (.inl h)
     exact .inr (.inr h)
   . show((Sum.inl ((Ao ns e.1:Nat):Int):Key) :: (Fg ns ct').map (·.1)).Nodup
     refine List.nodup_cons.mpr ⟨fun hm=>?_,g4⟩
     rcases(g3 _).mp hm with hm | hm
     . exact h1 hm
     exact hk hm
   rw[Bi,Bi,g5]
   omega
theorem a47 {ns:List Str}{ct:List ((Str->Bool)×Nat)}(h:Li ns ct)(hf:ns.length<=10):ct.length<=1024:=by
 have:=Ef (ys:=(List.range 1024).map fun i=>(Sum.inl ((i:Nat):Int):Key)) h fun k hk=>by
  obtain⟨kv,hkv,rfl⟩:=List.mem_map.mp hk
  obtain⟨e,_,rfl⟩:=List.mem_map.mp hkv
  have h2:=Oi e.1 ns
  have h3:(2:Nat) ^ ns.length<=2 ^ 10:=Nat.pow_le_pow_right (by decide) hf
  exact List.mem_map.mpr ⟨Ao ns e.1,List.mem_range.mpr (by omega),rfl⟩
 unfold Fg at this
 rwa[List.length_map,List.length_map,List.length_map,List.length_range] at this
section
variable {K:PySem.W.Frag}{σ:St}{H:Hp}{Q:VK}{td ty tx:TE}
def Xy (ty tx:TE)(σ:St):V->Hp->VK->Prop:=fun x H1 Q=>∃ a,x = .ref a/\IsD H1 a/\ty σ H1 fun y H2=>tx σ H2 fun z H3=>∃ o,DGet H3 a y o/\Q (o.getD z) H3
theorem i_dget2 (k:td σ H fun x H1=>Xy ty tx σ x H1 Q):Y7 td ty tx σ H Q:=k
theorem Xo {a:Addr}{kvs:List (Key×V)}(h:H a=some (.dK kvs))(k:ty σ H fun y H2=>tx σ H2 fun z H3=>∃ o,DGet H3 a y o/\Q (o.getD z) H3):Xy ty tx σ (.ref a) H Q:=⟨a,rfl,.inl ⟨kvs,.inl h⟩,k⟩
theorem a45 {a:Addr}{kvs:List (Key×V)}{z:Int}{v:V}(h:Rd H a (.dK kvs))(e:Cg kvs (Sum.inl z:Key)=some v)(k:Q v H):Jx K (.ref a) (.int z) H Q:=.inr ⟨a,v,rfl,.inl ⟨kvs,Sum.inl z,h,rfl,e.symm⟩,k⟩
end
section
variable {K:PySem.W.Frag}{C:Addr}{H H':Hp}{p dx:Addr}{nv:V}{bd ad kd:Addr}{ns:List Str}{ps:List (Str×Str)}{kvs:List (Key×V)}
end
section
variable {K:PySem.W.Frag}{σ:St}{H:Hp}{Q:VK}
end
theorem Jz {prog:Program}{w:World}{κ:Type}[DecidableEq κ](knd:KeyKind prog w κ)(d:Addr) :
  MeetsIn prog w (Builtin.«dict.update» ⟨[.ref d,.ref d],[]⟩) (fun _ R s=>(∃ kvs,s.heap.DictOf knd d kvs)/\R (.ok (.ret .none)) s):=
 .of_wp fun A R s hh=>by
  obtain⟨⟨kvs,hd⟩,h⟩:=hh
  unfold Builtin.«dict.update» Builtin.Dict.selfAndRest
  refine wpAny_bind (wpAny_bind (wpAny_notOrdered_dict hd.typeIs ?_))
  show wpAny _ _ (pure (d,[Value.ref d])) _ _ s
  refine wpAny_pure ?_
  show wpAny _ _ (Builtin.Dict.updateFrom "dict.update" d (.ref d) [] .none) _ _ s
  unfold Builtin.Dict.updateFrom Builtin.Dict.merge Builtin.Dict.readDirectly
  refine wpAny_bind (wpAny_typeOf hd.typeIs ?_)
  rw[if_neg (by decide)]
  refine wpAny_bind (wpAny_bind (wpAny_bind (wpAny_isInstance hd.typeIs isSubtype_dict_dict ?_)))
  simp only[Bool.not_true,Bool.false_eq_true,if_false]
  refine wpAny_bind (wpAny_specialOf hd.typeIs F.slot_dict_iter.lookup (wpAny_pure ?_))
  simp only[beq_self_eq_true,if_true]
  refine wpAny_bind (wpAny_pure ?_)
  unfold Builtin.Dict.mergeDict
  rw[if_pos (by simp)]
  refine wpAny_bind (wpAny_rule (wpAny_pure ?_))
  show wpAny _ _ (Builtin.Dict.addKeywords d [] >>= _) _ _ _
  exact wpAny_bind (wpAny_pure (wpAny_pure ⟨.none,rfl,h⟩))
def Qe:V->List V->Hp->VK->Prop:=fun x vs H Q=>∃ d kvs,x = .ref d/\vs=[.ref d]/\H d=some (.dK kvs)/\Q .non H
def Ks:V->List V->Hp->VK->Prop:=fun x vs H Q=>Oz x vs H Q\/Qe x vs H Q
section
variable {X:Cx}{K:PySem.W.Frag}
theorem Rf:MtM X "dict.update" Qe:=by
 intro pins s σ H x vs v us Q I rx rv h
 obtain⟨d,kvs,rfl,rfl,hD,q⟩:=h
 cases rx
 obtain⟨u,rfl,ru⟩:=rv.one
 cases ru
 obtain⟨z1,hd1,vs1,rel1,dd1⟩:=Mb I.hok hD
 refine call_meetsIn F.slot_dict_update dd1.typeIs F.entry_dict_update (F.args_dict_update_2 _ _) (Jz (Ap X.prog X.w) d) ⟨⟨vs1,dd1⟩,?_⟩
 exact⟨.non,H,I.tok s.toks,rfl,q⟩
theorem Ra:MtM X "dict.update" Ks:=by
 intro pins s σ H x vs v us Q I rx rv h
 rcases h with h | h
 . exact Tr pins s σ H x vs v us Q I rx rv h
 exact Rf pins s σ H x vs v us Q I rx rv h
end
theorem ag3 {d o:Addr}{ks ms:List Str}{H:Hp}{Q:VK}(hd:H d=some (.dK (Gn ks)))(ho:H o=some (.dK (Gn ms)))(hne:d≠o)(hz:ks.length+ms.length<=1000000)(k:∀ H',ExtBut d H H'->H' d=some (.dK (Gn (Jk ks ms)))->Q .non H'):Ks (.ref d) [.ref o] H Q:=.inl (ai8 hd ho hne hz k)
theorem a81 {d:Addr}{kvs:List (Key×V)}{H:Hp}{Q:VK}(hd:H d=some (.dK kvs))(k:Q .non H):Ks (.ref d) [.ref d] H Q:=.inr ⟨d,kvs,rfl,rfl,hd,k⟩
structure Ko (ns:List Str)(ps:List (Str×Str)):Prop where
 nd:ns.Nodup
 mem:∀ p∈ps,p.1∈ns/\p.2∈ns
 few:ns.length<=100
 le:ps.length<=1100
theorem HalfW.c {ns:List Str}{ps:List (Str×Str)}(h:HalfW ns ps):Ko ns ps:=⟨h.nd,h.mem,h.few,Nat.le_trans h.le (by decide)⟩
instance {ns:List Str} {ps:List (Str×Str)}:Coe (HalfW ns ps) (Ko ns ps):=⟨HalfW.c⟩
theorem HalfW.more {ns:List Str}{ps:List (Str×Str)}(h:HalfW ns ps){x y:Str}(hx:x∈ns)(hy:y∈ns):Ko ns (ps++[(x,y)]):=by
 refine⟨h.nd,fun p hp=>?_,h.few,?_⟩
 . rcases List.mem_append.mp hp with hp | hp
   . exact h.mem p hp
   have:p=(x,y):=by simpa using hp
   rw[this]
   exact⟨hx,hy⟩
 have:=h.le
 rw[List.length_append,List.length_singleton]
 omega
section
variable {α:Type}[DecidableEq α]
def okR (b:α->α->Bool) (r:List α):Prop:=(∀ u∈r,b u u=false)/\r.Pairwise fun u v=>b v u=false
theorem Md {L:List α}(hn:L.Nodup){x:α}(hx:x∈L):(x :: Aa L x).Perm L:=by
 induction L with
 | nil=>cases hx
 | cons y ys ih=>
   obtain⟨h1,h2⟩:=List.nodup_cons.mp hn
   by_cases e:y=x
   . subst e
     have:Aa (y :: ys) y=ys:=by
      have e1:Aa (y :: ys) y=Aa ys y:=by unfold Aa;rw[List.filter_cons,if_neg (by simp)]
      rw[e1,L8 h1]
     rw[this]
   have e1:Aa (y :: ys) x=y :: Aa ys x:=by unfold Aa;rw[List.filter_cons,if_pos (by simp[e])]
   rw[e1]
   exact(List.Perm.swap y x _).trans ((ih h2 ((List.mem_cons.mp hx).resolve_left fun q=>e q.symm)).cons y)
theorem Ea (b:α->α->Bool):∀(n:Nat) (L r:List α),L.Nodup->L.length=n->(r∈ext b n L↔r.Perm L/\okR b r)
 | 0,L,r,_,hl=>by
   have:=List.length_eq_zero_iff.mp hl
   subst this
   constructor
   . intro h
     have:r=[]:=by simpa[ext] using h
     subst this
     exact⟨.refl _,(fun _ h=>by cases h),List.Pairwise.nil⟩
   rintro⟨h,_⟩
   have:r=[]:=List.perm_nil.mp h
   subst this
   simp[ext]
 | n+1,L,r,hn,hl=>by
   constructor
   . intro h
     obtain⟨x,hx,h⟩:=List.mem_flatMap.mp h
     obtain⟨t,ht,rfl⟩:=List.mem_map.mp h
     have hxL:=mem_frF.mp hx
     have hlen:=B9 hn hxL.1
     obtain⟨h1,h2,h3⟩:=(Ea b n (Aa L x) t (Be hn x) (by omega)).mp ht
     refine⟨(h1.cons x).trans (Md hn hxL.1),fun u hu=>?_,List.pairwise_cons.mpr ⟨fun v hv=>hxL.2 v (mem_lessF.mp (h1.mem_iff.mp hv)).1,h3⟩⟩
     rcases List.mem_cons.mp hu with rfl | hu
     . exact hxL.2 u hxL.1
     exact h2 u hu
   rintro⟨hp,hd,hpw⟩
   cases r with
   | nil=>
     have:=hp.length_eq
     rw[hl] at this
     cases this
   | cons x t=>
     have hxL:x∈L:=hp.mem_iff.mp (by simp)
     have hlen:=B9 hn hxL
     have hpt:t.Perm (Aa L x):=List.Perm.cons_inv (hp.trans (Md hn hxL).symm)
     obtain⟨q1,q2⟩:=List.pairwise_cons.mp hpw
     refine List.mem_flatMap.mpr ⟨x,mem_frF.mpr ⟨hxL,fun y hy=>?_⟩,List.mem_map.mpr ⟨t,(Ea b n (Aa L x) t (Be hn x) (by omega)).mpr ⟨hpt,fun u hu=>hd u (by simp[hu]),q2⟩,rfl⟩⟩
     by_cases e:y=x
     . rw[e]
       exact hd x (by simp)
     exact q1 y (hpt.mem_iff.mpr (mem_lessF.mpr ⟨hy,e⟩))
theorem Ft (b:α->α->Bool):∀(n:Nat) (L:List α),L.Nodup->(ext b n L).Nodup
 | 0,L,_=>by simp[ext]
 | n+1,L,hn=>by
   show((frF b L).flatMap fun x=>(ext b n (Aa L x)).map (x :: ·)).Nodup
   have key:∀ l:List α,l.Nodup->(l.flatMap fun x=>(ext b n (Aa L x)).map (x :: ·)).Nodup:=by
    intro l
    induction l with
    | nil=>intro _;simp
    | cons y ys ih=>
      intro hl
      obtain⟨h1,h2⟩:=List.nodup_cons.mp hl
      rw[List.flatMap_cons,List.nodup_append]
      refine⟨?_,ih h2,?_⟩
      . have hi:=Ft b n (Aa L y) (Be hn y)
        exact List.pairwise_map.mpr (hi.imp fun hne e=>hne (List.cons.inj e).2)
      intro r hr t ht e
      obtain⟨r',_,rfl⟩:=List.mem_map.mp hr
      obtain⟨z,hz,ht⟩:=List.mem_flatMap.mp ht
      obtain⟨t',_,rfl⟩:=List.mem_map.mp ht
      have:y=z:=(List.cons.inj e).1
      exact h1 (this ▸ hz)
   exact key _ (Vw hn)
theorem K7 {β:Type}[DecidableEq β]{xs ys:List β}(h1:xs.Nodup)(h2:ys.Nodup)(h:∀ z,z∈xs↔z∈ys):xs.length=ys.length:=
 Nat.le_antisymm (Ef h1 fun z hz=>(h z).mp hz) (Ef h2 fun z hz=>(h z).mpr hz)
end
theorem Hy:∀ {r:List Str} {x:Str},x∈r->r[r.idxOf x]? = some x/\(∀ m<r.idxOf x,r[m]? ≠ some x)/\r.idxOf x<r.length
 | [],_,h=>by cases h
 | y :: ys,x,h=>by
   rw[List.idxOf_cons]
   by_cases e:y=x
   . subst e
     simp
   have hb:(y==x)=false:=by simpa using e
   obtain⟨h1,h2,h3⟩:=Hy ((List.mem_cons.mp h).resolve_left fun q=>e q.symm)
   rw[hb]
   refine⟨h1,fun m hm=>?_,by simpa using h3⟩
   cases m with
   | zero=>simpa using e
   | succ m=>exact h2 m (by simpa using hm)
theorem Mj {ns r:List Str}{ps:List (Str×Str)}(hn:ns.Nodup)(hm:∀ p∈ps,p.1∈ns/\p.2∈ns)(hp:r.Perm ns):okR (Ae ps) r↔∀ p∈ps,r.idxOf p.1<r.idxOf p.2:=by
 have hrn:r.Nodup:=hp.nodup_iff.mpr hn
 constructor
 . rintro⟨h1,h2⟩ p hpp
   obtain⟨m1,m2⟩:=hm p hpp
   obtain⟨a1,_,a3⟩:=Hy (hp.mem_iff.mpr m1)
   obtain⟨b1,_,b3⟩:=Hy (hp.mem_iff.mpr m2)
   have hw:Ae ps p.1 p.2=true:=wayB_iff.mpr (.one hpp)
   have a4:=(List.getElem?_eq_some_iff.mp a1).2
   have b4:=(List.getElem?_eq_some_iff.mp b1).2
   rcases Nat.lt_trichotomy (r.idxOf p.1) (r.idxOf p.2) with h | h | h
   . exact h
   . have e:p.1=p.2:=by
      rw[h,b1] at a1
      exact(Option.some.inj a1).symm
     rw[e] at hw
     rw[h1 p.2 (hp.mem_iff.mpr m2)] at hw
     cases hw
   have:=List.pairwise_iff_getElem.mp h2 _ _ b3 a3 h
   rw[a4,b4] at this
   rw[this] at hw
   cases hw
 intro h
 have hw:∀ u v,Way ps u v->r.idxOf u<r.idxOf v:=fun u v g=>by
  induction g with
  | one e=>exact h _ e
  | cons e _ ih=>exact Nat.lt_trans (h _ e) ih
 refine⟨fun u hu=>?_,List.pairwise_iff_getElem.mpr fun i j hi hj hij=>?_⟩
 . cases c:Ae ps u u with
   | false=>rfl
   | true=>exact absurd (hw u u (wayB_iff.mp c)) (Nat.lt_irrefl _)
 cases c:Ae ps r[j] r[i] with
 | false=>rfl
 | true=>
   have g:=hw _ _ (wayB_iff.mp c)
   have ix:∀ k (hk:k<r.length),r.idxOf r[k]=k:=fun k hk=>by
    obtain⟨f1,_,f3⟩:=Hy (List.getElem_mem hk)
    exact(List.getElem_inj hrn).mp (List.getElem?_eq_some_iff.mp f1).2
   rw[ix j hj,ix i hi] at g
   omega
theorem G5 {ns:List Str}{ps:List (Str×Str)}(h:HalfW ns ps){x y:Str}(hx:x∈ns)(hy:y∈ns):cnt (Ae (ps++[(x,y)])) ns=((ext (Ae ps) ns.length ns).filter fun r=>decide (r.idxOf x<r.idxOf y)).length:=by
 refine K7 (Ft _ _ _ h.nd) (List.Nodup.sublist List.filter_sublist (Ft _ _ _ h.nd)) fun r=>?_
 rw[List.mem_filter,Ea _ _ _ _ h.nd rfl,Ea _ _ _ _ h.nd rfl,decide_eq_true_iff]
 have key:∀ hp:r.Perm ns,okR (Ae (ps++[(x,y)])) r↔okR (Ae ps) r/\r.idxOf x<r.idxOf y:=fun hp=>by
  rw[Mj h.nd (h.more hx hy).mem hp,Mj h.nd h.mem hp]
  constructor
  . intro g
    exact⟨fun p hpp=>g p (List.mem_append_left _ hpp),g (x,y) (by simp)⟩
  rintro⟨g1,g2⟩ p hpp
  rcases List.mem_append.mp hpp with hpp | hpp
  . exact g1 p hpp
  have:p=(x,y):=by simpa using hpp
  rw[this]
  exact g2
 constructor
 . rintro⟨hp,ho⟩
   exact⟨⟨hp,((key hp).mp ho).1⟩,((key hp).mp ho).2⟩
 rintro⟨⟨hp,ho⟩,hi⟩
 exact⟨hp,(key hp).mpr ⟨ho,hi⟩⟩
section
variable {prog:Program}{w:World}{A:Around}{E:Value->Shared->Prop}{I:Addr}{fp wr:List Addr}{n:Nat}{P:Nat->Value->Prop}{St:Nat->Heap->Prop}
end
section
variable {α:Type}[DecidableEq α]
theorem Xk {b:α->α->Bool}{L M:List α}(hn:L.Nodup)(hp:M.Perm L):cnt b M=cnt b L:=by
 have hm:M.Nodup:=hp.nodup_iff.mpr hn
 unfold cnt
 refine K7 (Ft _ _ _ hm) (Ft _ _ _ hn) fun r=>?_
 rw[Ea _ _ _ _ hm rfl,Ea _ _ _ _ hn rfl]
 constructor
 . rintro⟨h1,h2⟩
   exact⟨h1.trans hp,h2⟩
 rintro⟨h1,h2⟩
 exact⟨h1.trans hp.symm,h2⟩
theorem W6 {b c:α->α->Bool}{L:List α}(h:∀ x∈L,∀ y∈L,b x y=c x y):frF b L=frF c L:=by
 unfold frF
 apply List.filter_congr
 intro x hx
 have:(L.any fun y=>b y x)=L.any fun y=>c y x:=by
  rw[Bool.eq_iff_iff,List.any_eq_true,List.any_eq_true]
  constructor
  . rintro⟨y,hy,e⟩
    exact⟨y,hy,by rw[<- h y hy x hx];exact e⟩
  rintro ⟨y,hy,e⟩
  exact⟨y,hy,by rw[h y hy x hx];exact e⟩
 rw[this]
theorem Js {b c:α->α->Bool}:∀(n:Nat) {L:List α},L.length=n->L.Nodup->(∀ x∈L,∀ y∈L,b x y=c x y)->cnt b L=cnt c L
 | 0,L,hl,_,_=>by
   have:=List.length_eq_zero_iff.mp hl
   subst this
   rfl
 | n+1,L,hl,hn,h=>by
   have hne:L≠[]:=by intro e;rw[e] at hl;cases hl
   rw[Iv hn hne,Iv hn hne,W6 h]
   apply Mu
   intro x hx
   have:=B9 hn (mem_frF.mp hx).1
   exact Js n (by omega) (Be hn x) fun u hu v hv=>h u (mem_lessF.mp hu).1 v (mem_lessF.mp hv).1
theorem Nj (A B:List α)(x:α):Aa (A++B) x=Aa A x++Aa B x:=by unfold Aa;rw[List.filter_append]
theorem Tx {l:List α}{p:α->Bool}(h:∀ x∈l,p x=false):l.any p=false:=by
 rw[Bool.eq_false_iff]
 intro e
 obtain ⟨x,hx,hp⟩:=List.any_eq_true.mp e
 rw[h x hx] at hp
 cases hp
theorem M5 {b:α->α->Bool}:∀(n:Nat) {A B:List α},A.length=n->(A++B).Nodup->(∀ x∈A,∀ y∈B,b x y=true/\b y x=false)->cnt b (A++B)=cnt b A*cnt b B
 | 0,A,B,hl,_,_=>by
   have:=List.length_eq_zero_iff.mp hl
   subst this
   rw[List.nil_append,Ue,Nat.one_mul]
 | n+1,A,B,hl,hn,h=>by
   obtain⟨hA,hB,hAB⟩:=List.nodup_append.mp hn
   have hne:A≠[]:=by intro e;rw[e] at hl;cases hl
   have hne2:A++B≠[]:=by simp[hne]
   have hfr:frF b (A++B)=frF b A:=by
    unfold frF
    rw[List.filter_append]
    have e1:(A.filter fun x=>!((A++B).any fun y=>b y x))=A.filter fun x=>!(A.any fun y=>b y x):=by
     apply List.filter_congr
     intro x hx
     rw[List.any_append,Tx (l:=B) fun y hy=>(h x hx y hy).2,Bool.or_false]
    have e2:(B.filter fun x=>!((A++B).any fun y=>b y x))=[]:=by
     rw [List.filter_eq_nil_iff]
     intro y hy
     cases A with
     | nil=>exact absurd rfl hne
     | cons a A=>
       have:((a :: A++B).any fun z=>b z y)=true:=List.any_eq_true.mpr ⟨a,by simp,(h a (by simp) y hy).1⟩
       rw[this]
       decide
    rw[e1,e2,List.append_nil]
   rw[Iv hn hne2,hfr,Iv hA hne,<- Qi]
   apply Mu
   intro x hx
   have hxA:=(mem_frF.mp hx).1
   have hxB:x∉B:=fun hb=>hAB x hxA x hb rfl
   have hlen:=B9 hA hxA
   rw[Nj,L8 hxB]
   refine M5 n (by omega) ?_ fun u hu v hv=>h u (mem_lessF.mp hu).1 v hv
   rw[List.nodup_append]
   exact⟨Be hA x,hB,fun u hu v hv=>hAB u (mem_lessF.mp hu).1 v hv⟩
end
section
variable {prog:Program}{w:World}{A:Around}{E:Value->Shared->Prop}{s:Shared}
end
section
variable {κ:Type}[DecidableEq κ]
end
theorem Lr {α:Type}[DecidableEq α]{b:α->α->Bool}(irr:∀ x,b x x=false)(tr:∀ x y z,b x y=true->b y z=true->b x z=true):∀(n:Nat) (L:List α),L.length=n->L.Nodup->0<cnt b L
 | 0,L,hl,_=>by
   have:=List.length_eq_zero_iff.mp hl
   subst this
   exact Nat.zero_lt_one
 | n+1,L,hl,hn=>by
   have hne:L≠[]:=by intro e;rw[e] at hl;cases hl
   rw[Iv hn hne]
   cases hf:frF b L with
   | nil=>exact absurd hf (ah2 irr tr hne)
   | cons x t=>
     have hx:x∈frF b L:=by rw[hf];simp
     have:=B9 hn (mem_frF.mp hx).1
     have:=Lr irr tr n (Aa L x) (by omega) (Be hn x)
     rw[List.map_cons,List.sum_cons]
     omega
theorem Uo {α:Type}[DecidableEq α](b:α->α->Bool)(ns:List α)(k:Nat):Dh b ns k [[]]=ext b k ns:=by
 rw[Ql,Uk]
 simp
section
variable {α:Type}[DecidableEq α]
end
section
variable {X:Cx}
end
def ItE (K:PySem.W.Frag)(a:Addr):It:=
 ⟨fun i H=>∃ xs x,SqL K H a xs/\xs[i]? = some x,fun i H v H'=>∃ t x,H t=none/\H'=upd H t (.tup [.int i,x])/\v = .ref t/\∀ xs,SqL K H a xs->xs[i]? = some x,fun i H=>∃ xs,SqL K H a xs/\xs.length=i⟩
theorem R5 {P:Program}{w:World}{K:PySem.W.Frag}{elts:List Expr}{ek:Nat}{epos:Pos}(a it e:Addr)(hei:e≠it)(hai:a≠it)(hae:a≠e):Wo P w K (.Tuple elts ek epos) (ItE K a) [e,it] e (fun i h=>(∃ old,IsEnum h e it i old)/\h.IsListIter it a i) where
 mem:=by simp
 obj:=fun i h st b hb=>by
  obtain⟨⟨old,h1⟩,o,h2,h3,h4⟩:=st
  rcases List.mem_cons.mp hb with rfl | hb
  . exact⟨_,h1,fun v z=>by cases z⟩
  have q:b=it:=by simpa using hb
  subst q
  exact⟨o,h2,fun v z=>by rw[h4] at z;cases z⟩
 keep:=fun i h h' st k=>by
  obtain⟨⟨old,h1⟩,h2⟩:=st
  exact⟨⟨old,k e (by simp) _ h1⟩,h2.at fun o q=>k it (by simp) o q⟩
 item:=by
  intro X hP hw hK hc i pins s σ H E I hf st hg
  subst hP hw hK
  obtain⟨xs,x,hq,hx⟩:=hg
  obtain⟨its,rv,p,hz⟩:=I.list hq
  have hil:i<its.length:=by
   have:=(List.getElem?_eq_some_iff.mp hx).1
   rw[<- rv.length]
   exact this
  have D:=Draws.list (prog:=X.prog) (w:=X.w) (A:=X.A.in1) (by simpa using I.ok.hd hc) it a hai its.toArray
  obtain⟨⟨old,he⟩,hit⟩:=st
  have hel:e<s.heap.objs.size:=Heap.lt_size he
  have hil':it<s.heap.objs.size:=let ⟨_,q,_⟩:=hit;Heap.lt_size q
  refine wpAny_pyNext_enum_itemD D he ⟨hit,(PlainL.isList p)⟩ (by simpa using hil) hei (by simp[hei,Ne.symm hae]) fun v h1 tk hv ho hst hT hsz hk=>?_
  obtain⟨u,hu,ru⟩:=rv.get hx
  have hvu:v=u:=by
   have hv':its.toArray[i]? = some v:=hv
   rw[List.getElem?_toArray,hu] at hv'
   exact(Option.some.inj hv').symm
  subst hvu
  refine⟨_,rfl,wpAny_letOwnedTupleGo_enum ho fun h2 he2 hs2=>?_⟩
  have hTn:H s.heap.objs.size=none:=I.hok.fresh (Nat.le_refl _)
  have hT2:h2.get? s.heap.objs.size=some { cls:=.type "tuple",data:=.seq #[.int i tk,v] }:=(hs2.2 _ (Nat.ne_of_gt hel)).trans hT
  have I1:Inv X pins σ (upd H s.heap.objs.size (.tup [.int i,x])) { s with heap:=s.heap.push { cls:=.type "tuple",data:=.seq #[.int i tk,v] } }:=
   I.laid (t':=s.toks) (fun b ob q=>Heap.get?_push_of_some _ q) (Nat.le_refl _) ⟨by simp[sizeLine_eq],[.int i tk,v],.cons ⟨tk,rfl⟩ (.cons ru .nil),_,Heap.get?_push_size _ rfl,rfl,⟨_,rfl⟩,rfl⟩
  have nT:∀ b∈[e,it],b≠s.heap.objs.size:=fun b hb=>by
   rcases List.mem_cons.mp hb with rfl | hb
   . exact Nat.ne_of_lt hel
   have q:b=it:=by simpa using hb
   subst q
   exact Nat.ne_of_lt hil'
  have I2:Inv X pins σ (upd H s.heap.objs.size (.tup [.int i,x])) { s with heap:=h2,toks:=tk+1 }:=Inv.turnedL (s:={ s with heap:=s.heap.push { cls:=.type "tuple",data:=.seq #[.int i tk,v] } }) (ch:=[e,it]) I1 (fun b ob hb q=>?_) (fun b hb=>?_)
  . refine⟨.ref s.heap.objs.size,_,I2,rfl,⟨_,x,hTn,rfl,rfl,fun ys hy=>by rw[I.list_inj hy hq];exact hx⟩,⟨⟨_,by simpa using he2⟩,hst.1.at fun o q=>(hs2.2 it (Ne.symm hei)).trans q⟩,fun b hb=>?_⟩
    rw[Aq (nT b hb)]
    exact(hf b hb).1
  . have hbe:b≠e:=fun z=>hb (by simp[z])
    have hbi:b≠it:=fun z=>hb (by simp[z])
    rcases Heap.get?_push_cases q with ⟨rfl,rfl⟩ | q
    . exact hT2
    exact(hs2.2 b hbe).trans (hk b ob hbe hbi q)
  obtain⟨f0,f1,f2,f3,f4,f5⟩:=hf b hb
  exact⟨by rw[Aq (nT b hb)];exact f0,f1,f2,f3,f4,f5⟩
 done:=by
  intro X hP hw hK hc i pins s σ H E I hf st hg
  subst hP hw hK
  obtain⟨xs,hq,hx⟩:=hg
  obtain⟨its,rv,p,hz⟩:=I.list hq
  obtain⟨⟨old,he⟩,hit⟩:=st
  have hlen:its.toArray.size=i:=by rw[List.size_toArray,<- rv.length];exact hx
  have D:=Draws.list (prog:=X.prog) (w:=X.w) (A:=X.A.in1) (by simpa using I.ok.hd hc) it a hai its.toArray
  rw[hlen] at D
  refine wpAny_pyNext_enum_endD D he ⟨hit,(PlainL.isList p)⟩ fun h' hk=>⟨rfl,I.turnedL (t':=s.toks) (ch:=[e,it]) (fun b o hb q=>hk b o (fun z=>hb (by simp[z])) q) hf⟩
 self:=by
  intro A i s Q E st hQ
  obtain⟨⟨old,he⟩,_⟩:=st
  exact wpAny_pyIter_enum he hQ
section
variable {X:Cx}{K:PySem.W.Frag}
def Uu (K:PySem.W.Frag)(vs:List V)(H:Hp)(R:It->Hp->Prop):Prop:=∃ a xs,vs=[.ref a]/\SqL K H a xs/\R (ItE K a) H
def Xz (K:PySem.W.Frag)(ta:TA):TI:=fun σ H R=>ta σ H fun vs H1=>Uu K vs H1 R
theorem Ws {e:Expr}{ta:TA}{p pos:Pos}{elts:List Expr}{ek:Nat}{epos:Pos}(hg:Gl X "enumerate")(hm:X.mg "enumerate" = none)(ha:PA X [e] ta)(hK:X.K=K:=by ac_nf)(hs:starEach [e] X.env=[(false,eval e X.env)]:=by ac_nf) :
  PI X (.Tuple elts ek epos) (.Call (.Name "enumerate" p) [e] [] pos) (Xz K ta):=by
 subst hK
 intro pins s σ H R I h
 refine Call_ (J8 I hg hm K0 (PyProof.Rows.callWith_type1 (thn (ha pos pins s σ H _ I h) fun us s1 ⟨vs,H1,I1,r1,q1⟩=>?_) hs rfl))
 obtain⟨a,xs,rfl,hq,q⟩:=q1
 obtain⟨u,rfl,ru⟩:=Vals.one r1
 cases ru
 obtain⟨its,rv,ht,hz⟩:=I1.list hq
 have hal:a<s1.heap.objs.size:=let ⟨_,q,_⟩:=(PlainL.isList ht);Heap.lt_size q
 refine call_enumerate_list (PlainL.isList ht) fun h' he hit _ hk=>?_
 refine wpAny_pyIter_enum he ?_
 refine⟨s1.heap.objs.size+1,[s1.heap.objs.size+1,s1.heap.objs.size],_,_,H1,rfl,I1.kept (t':=s1.toks) hk,R5 a s1.heap.objs.size (s1.heap.objs.size+1) (Nat.succ_ne_self _) (Nat.ne_of_lt hal) (Nat.ne_of_lt (Nat.lt_succ_of_lt hal)),⟨⟨_,he⟩,hit⟩,fun b hb=>?_,q⟩
 rcases List.mem_cons.mp hb with rfl | hb
 . exact I1.fpOk (Nat.le_succ _) (I1.hok.fresh (Nat.le_succ _))
 have e:b=s1.heap.objs.size:=by simpa using hb
 subst e
 exact I1.fpOk (Nat.le_refl _) (I1.hok.fresh (Nat.le_refl _))
end
section
variable {K:PySem.W.Frag}{σ:St}{H:Hp}
theorem i_ienumL {ts:TA}{R:It->Hp->Prop}(k:ts σ H fun vs H1=>Uu K vs H1 R):Xz K ts σ H R:=k
theorem Vj {xs:List V}{a:Addr}{n m:Nat}{tb:TS}{D:Ka}(h:SqL K H a xs)(Pv:Nat->St->Hp->Prop)(h0:Pv 0 σ H)(hG:∀ i σ' H',Pv i σ' H'->SqL K H' a xs)
  (hs:∀ i x σ' H' H2,xs[i]? = some x->Pv i σ' H'->Same H' H2->tb { D with nx:=Pv (i+1),ct:=Pv (i+1),bk:=D.nx } ((σ'.set n (some (.int i))).set m (some x)) H2) (hd:∀ σ' H',Pv xs.length σ' H'->D.nx σ' H') :
  Uu K [.ref a] H fun J H1=>Zf (ab6 K 2 (Rm (Ir n) (Rm (Ir m) ai0))) tb D σ J H1:=by
 refine⟨a,xs,rfl,h,fun i k σ' H'=>k=xs.length-i/\i<=xs.length/\Pv i σ' H',⟨xs.length,by simp,Nat.zero_le _,h0⟩,?_⟩
 rintro i k σ' H' ⟨rfl,hi,p⟩
 have g:=hG i σ' H' p
 by_cases hlt:i<xs.length
 . refine .inr ⟨⟨xs,xs[i],g,List.getElem?_eq_getElem hlt⟩,Pv (i+1),fun σ2 H2 p2=>⟨xs.length-(i+1),by omega,rfl,hlt,p2⟩,fun v H2 y=>?_⟩
   obtain⟨t,x,ht,rfl,rfl,hx⟩:=y
   exact⟨t,_,rfl,SqT.of A9,rfl,.int i,[x],rfl,x,[],rfl,rfl,hs i x σ' H' _ (hx xs g) p (Same.upd ht)⟩
 have e:i=xs.length:=by omega
 subst e
 exact .inl ⟨⟨xs,g,rfl⟩,hd σ' H' p⟩
end
end L2
namespace L2
open PySem PySem.Spec PyProof.Rows
open PySem PySem.W PyProof.Rows
section
variable {n:Nat}{r:Nat->Nat}
end
section
variable {prog:Program}{w:World}{A:Around}{E:Value->Shared->Prop}{z:Shared}
end
section
variable {prog:Program}{w:World}{A:Around}{E:Value->Shared->Prop}{z:Shared}
end
section
variable {X:Cx}{K:PySem.W.Frag}
end
end L2
namespace L2
open PySem PySem.Spec PyProof.Rows
theorem aa5 {ns:List Str}{ps:List (Str×Str)}(hn:ns.Nodup){p:Str×Str}(h:p∈unP ns ps):p.1≠p.2:=by
 unfold unP unK at h
 rw[List.mem_flatMap] at h
 obtain⟨i,hi,h⟩:=h
 have hi':=List.mem_range.mp hi
 unfold unR at h
 obtain⟨y,hy,rfl⟩:=List.mem_map.mp h
 have hy1:=(List.mem_filter.mp hy).1
 intro (e:ns.getD i "" = y)
 have e1:ns.getD i "" = ns[i]:=by simp[hi']
 have h3:(ns.drop i).Nodup:=hn.sublist (List.drop_sublist _ _)
 rw[List.drop_eq_getElem_cons hi'] at h3
 exact(List.nodup_cons.mp h3).1 (by rw[<- e1,e];exact hy1)
section
variable {κ:Type}[DecidableEq κ]{P:Program}{w:World}{kd:KeyKind P w κ}{A:Around}{E:Value->Shared->Prop}{z:Shared}
theorem Vu {e:Addr}{al:List (κ×Value)}{G:Bool->Shared->Prop}(nd:(e==sysModules)=false)(od:z.heap.DictOf kd e al)(go:G false z) :
  wpAny (model P w) A (Builtin.List.listLengthHint (.ref e)) G E z:=by
 unfold Builtin.List.listLengthHint
 refine(wpAny_bind (wpAny_specialOf od.typeIs (F.slot_dict_len).lookup ?_))
 generalize gid:("dict.__len__":String)=which
 wp_delta
 rw[show splitId which=some ("dict","__len__") from(by subst gid;decide +kernel)]
 subst gid
 refine(wpAny_bind (wpAny_isInstance (T:="dict") (b:=true) od.typeIs (by rw[isSubtype_type];kernel_rfl) ?_))
 refine(wpAny_ite_split (fun no=>absurd no (by decide)) (fun _=>?_))
 refine(wpAny_ite_split (fun _=>?_) (fun no=>absurd (by decide +kernel) no))
 refine(wpAny_bind (wpAny_typeOf (T:="dict") od.typeIs ?_))
 exact wpAny_pure go
theorem Oa {R:Result->Shared->Prop}{e:Addr}{al:List (κ×Value)}{ep:Nat}(calm:A.handled=none)(nd:(e==sysModules)=false)(od:z.heap.DictAt kd e al ep)(few:al.length<=2 ^ 24)
  (L:Addr) (res:Value) (c0:Nat) (hL:z.heap.get? L=some { cls:=.type "list",data:=.seq #[] c0 })
  (go:∀ g tk out c,(∀ b o,b≠L->z.heap.get? b=some o->g.get? b=some o)->g.get? L=some { cls:=.type "list",dict:=none,data:=.seq out c,slots:=#[] } ->
   ItemsOf (fun i v=>∃ k x,al[i]? = some (k,x)/\kd.is k v=true) out al.length->R (.ok (.ret res)) { z with heap:=g,toks:=tk }) :
  wpAny (model P w) A.in1 (Builtin.List.listExtendWith (.ref L) (.ref e) res)
   (fun fin s'=>match fin with | .done f=>R (.ok f) s' | .again c'=>c'.quiet=true/\codeAny (model P w) A c' R s') (fun e s'=>R (.error e) s') z:=by
 have tyd:z.TypeIs (.ref e) "dict":=od.dictOf.typeIs
 have apart:L≠e:=fun q=>by
  obtain⟨o,h1,h2⟩:=tyd
  rw[<- q,hL] at h1
  cases h1
  simp at h2
 have low:L<z.heap.objs.size:=Heap.lt_size hL
 have lowE:e<z.heap.objs.size:=od.lt_size
 have off:L≠z.heap.objs.size:=Nat.ne_of_lt low
 have W:=(Walks.dictKeys (knd:=kd) (prog:=P) (w:=w) (A:=A.in1) calm z.heap.objs.size e (Nat.ne_of_lt lowE) al ep).toS
 have notin:L∉[z.heap.objs.size,e]:=fun q=>by
  simp only[List.mem_cons,List.not_mem_nil,or_false] at q
  rcases q with q | q
  . exact off q
  exact apart q
 have run:∀(g:Heap) (c1 tk:Nat),g.IsKeyIter z.heap.objs.size e 0 al.length ep->g.DictAt kd e al ep->(∀ b o,b≠L->z.heap.get? b=some o->g.get? b=some o) ->
   g.get? L=some { cls:=.type "list",data:=.seq #[] c1 }->codeAny (model P w) A (.builtin "list.extend.loop" ⟨[.ref L,.ref z.heap.objs.size,res],[]⟩) R { z with heap:=g,toks:=tk }:=by
  intro g c1 tk it od1 keep hL1
  refine(codeAny_extend_loopS W (by rw[sizeLine_eq];omega) L notin res al.length 0 _ #[] c1 rfl (Nat.zero_le _) ⟨it,od1⟩ hL1 (ItemsOf.nil _) fun s' out c' mv hL' items=>?_)
  rw[Moved.eq_with mv]
  refine(go s'.heap s'.toks out c' (fun b o hb q=>mv.heap b o (fun m=>?_) (keep b o hb q)) hL' items)
  rcases List.mem_cons.mp m with q' | m
  . exact hb q'
  exact absurd (Heap.lt_size q) (by rw[List.mem_singleton.mp m];exact Nat.lt_irrefl _)
 unfold Builtin.List.listExtendWith
 refine(wpAny_bind (wpAny_typeOf (T:="dict") tyd ?_))
 have n1:Builtin.List.listSameRef (.ref L) (.ref e)=false:=by simp[Builtin.List.listSameRef,apart]
 have n2:(Value.type "dict" == Value.type "list")=false:=by decide
 have n3:(Value.type "dict" == Value.type "tuple")=false:=by decide
 simp only[n1,n2,n3,Bool.or_false,Bool.false_eq_true,if_false]
 refine(wpAny_bind (wpAny_pyIter_dict nd od ?_))
 have od1:=od.push { cls:=.type "dict_keyiterator",data:=.fields #[.ref e,.int 0 0,.int al.length 0,.int ep 0] }
 refine(wpAny_bind (wpAny_holding (Vu nd od1.dictOf ?_)))
 have it1:(z.heap.push { cls:=.type "dict_keyiterator",data:=.fields #[.ref e,.int 0 0,.int al.length 0,.int ep 0] }).IsKeyIter z.heap.objs.size e 0 al.length ep:=⟨_,Heap.get?_push_size _ rfl,rfl,rfl⟩
 have hL1:=Heap.get?_push_of_some { cls:=.type "dict_keyiterator",data:=.fields #[.ref e,.int 0 0,.int al.length 0,.int ep 0] } hL
 refine(wpAny_ite_split (fun _=>?_) (fun _=>wpAny_pure ⟨plainId_quiet F.plain_extend_loop _,run _ c0 _ it1 od1 (fun b o _ q=>Heap.get?_push_of_some _ q) hL1⟩))
 refine(wpAny_bind (wpAny_rule ?_))
 refine(wpAny_bind ?_)
 show wpAny _ _ (updateSeq L (·.push .none) >>= fun _=>updateSeq L (·.pop)) _ _ _
 refine(wpAny_bind (wpAny_updateSeq hL1 rfl ?_))
 have hL2:=Heap.get?_update_self (Obj.mapSeq (·.push Value.none)) hL1 rfl
 refine(wpAny_updateSeq (hz:=by seq_fits) hL2 rfl ?_)
 have hL3:=Heap.get?_update_self (Obj.mapSeq (·.pop)) hL2 rfl
 have up:∀ b o,b≠L->(z.heap.push { cls:=.type "dict_keyiterator",data:=.fields #[.ref e,.int 0 0,.int al.length 0,.int ep 0] }).get? b=some o->_:=fun b o hb q=>
  (Heap.get?_update_other _ (Obj.mapSeq (·.pop)) (Ne.symm hb)).trans ((Heap.get?_update_other _ (Obj.mapSeq (·.push Value.none)) (Ne.symm hb)).trans q)
 exact wpAny_pure ⟨plainId_quiet F.plain_extend_loop _,run _ _ _ (it1.at fun o q=>up _ o (Ne.symm off) q) (od1.at' fun o q=>up _ o (Ne.symm apart) q) (fun b o hb q=>up b o hb (Heap.get?_push_of_some _ q)) hL3⟩
theorem Vk {R:Result->Shared->Prop}{e:Addr}{al:List (κ×Value)}{ep:Nat}(calm:A.handled=none)(nd:(e==sysModules)=false)(od:z.heap.DictAt kd e al ep)(few:al.length<=2 ^ 24)
  (L:Addr) (hL:z.heap.get? L=some { cls:=.type "list",data:=.seq #[] })
  (go:∀ g tk out c,(∀ b o,b≠L->z.heap.get? b=some o->g.get? b=some o)->g.get? L=some { cls:=.type "list",dict:=none,data:=.seq out c,slots:=#[] } ->
   ItemsOf (fun i v=>∃ k x,al[i]? = some (k,x)/\kd.is k v=true) out al.length->R (.ok (.ret .none)) { z with heap:=g,toks:=tk }) :
  wpAny (model P w) A.in1 (Builtin.«list.__init__» ⟨[.ref L,.ref e],[]⟩)
   (fun fin s'=>match fin with | .done f=>R (.ok f) s' | .again c'=>c'.quiet=true/\codeAny (model P w) A c' R s') (fun e s'=>R (.error e) s') z:=by
 have apart:e≠L:=fun q=>by
  obtain⟨o,h1,h2⟩:=od.dictOf.typeIs (s:=z)
  rw[q,hL] at h1
  cases h1
  simp at h2
 show wpAny _ _ (do let was <- Builtin.List.listItems (.ref L);Builtin.List.listUpdate (.ref L) (fun _=>#[]);letGo was.toList.reverse;Builtin.List.listExtendWith (.ref L) (.ref e) .none) _ _ z
 refine(wpAny_bind ?_)
 unfold Builtin.List.listItems
 refine(wpAny_bind (wpAny_seqItems hL rfl (wpAny_pure ?_)))
 show wpAny _ _ (updateSeq L (fun _=>#[]) >>= fun _=>letGo (#[]:Array Value).toList.reverse >>= fun _=>Builtin.List.listExtendWith (.ref L) (.ref e) .none) _ _ z
 refine(wpAny_bind (wpAny_updateSeq hL rfl ?_))
 have hL2:=Heap.get?_update_self (Obj.mapSeq (fun _=>(#[]:Array Value))) hL rfl
 have up:∀ b o,b≠L->z.heap.get? b=some o->(z.heap.update L (Obj.mapSeq (fun _=>(#[]:Array Value)))).get? b=some o:=
  fun b o hb q=>(Heap.get?_update_other _ _ (Ne.symm hb)).trans q
 refine(wpAny_bind (wpAny_letGo ?_))
 refine(Oa calm nd (od.at' fun o q=>up e o apart q) few L .none _ hL2 fun g tk out c keep hL' items=>?_)
 exact go g tk out c (fun b o hb q=>keep b o hb (up b o hb q)) hL' items
theorem K5 {Q:Value->Shared->Prop}{e:Addr}{al:List (κ×Value)}{ep:Nat}(calm:A.handled=none)(nd:(e==sysModules)=false)(od:z.heap.DictAt kd e al ep)(few:al.length<=2 ^ 24)
  (go:∀ g tk out c,(∀ b o,z.heap.get? b=some o->g.get? b=some o)->g.get? z.heap.objs.size=some { cls:=.type "list",dict:=none,data:=.seq out c,slots:=#[] } ->
   ItemsOf (fun i v=>∃ k x,al[i]? = some (k,x)/\kd.is k v=true) out al.length->Q (.ref z.heap.objs.size) { z with heap:=g,toks:=tk }) :
  wpAny (model P w) A (call (.type "list") [.ref e]) Q E z:=by
 refine callType_codes (Q₁:=fun new s₁=>new = .ref z.heap.objs.size/\s₁={ z with heap:=z.heap.push { cls:=.type "list",data:=.seq #[] } }) F.called_list (F.typeCall_list_1 _) F.entry_list_init
  (code_list_new _ ⟨rfl,rfl⟩) fun new s₁ both=>?_
 obtain⟨rfl,rfl⟩:=both
 have hL:(z.heap.push { cls:=.type "list",data:=.seq #[] }).get? z.heap.objs.size=some { cls:=.type "list",data:=.seq #[] }:=Heap.get?_push_size _ rfl
 refine⟨⟨_,hL,rfl⟩,F.args_list_init_2 _ _,Vk (A:=A.in1) calm nd (od.push _) few _ hL fun g tk out c keep hL' items=>?_⟩
 exact⟨rfl,go g tk out c (fun b o q=>keep b o (Nat.ne_of_lt (Heap.lt_size q)) (Heap.get?_push_of_some _ q)) hL' items⟩
end
section
variable {X:Cx}{K:PySem.W.Frag}
def Yp:List V->Hp->VK->Prop:=fun xs H Q=>∃(d:Addr) (kvs:List (Key×V)),xs=[.ref d]/\H d=some (.dK kvs)/\kvs.length<=1000000/\∀ l,H l=none->Q (.ref l) (upd H l (.lst (kvs.map fun kv=>kV kv.1)))
theorem K9 (hc:X.calm=true):CallR X (.type "list") Yp:=by
 intro pins s σ H xs us Q I r h
 obtain⟨d,kvs,rfl,hd,hz,q⟩:=h
 obtain⟨u,rfl,ru⟩:=Gi r
 cases ru
 obtain⟨_,hs,vs,rel,dd⟩:=Mb I.hok hd
 obtain⟨ep,hat⟩:=dd.dictAt
 have hlen:=rel.length
 refine K5 (by simpa using I.ok.hd hc) hs hat (by omega) fun g tk out c keep hL items=>?_
 refine⟨.ref s.heap.objs.size,_,I.laid (t':=tk) (o:=.lst (kvs.map fun kv=>kV kv.1)) keep (Nat.le_refl _) ⟨?_,out.toList,c,Mn ?_ ?_,by simpa using hL⟩,rfl,q _ (I.hok.fresh (Nat.le_refl _))⟩
 . rw[List.length_map,sizeLine_eq]
   omega
 . have e1:=items.1
   have e2:out.toList.length=out.size:=Array.length_toList
   have e3:(kvs.map fun kv=>kV kv.1).length=kvs.length:=List.length_map ..
   omega
 intro i a b ha hb
 rw[Array.getElem?_toList] at hb
 obtain⟨k,x,hkx,hk⟩:=items.2 i b hb
 have hk':kvs[i]?.map (·.1)=some k:=by
  rw[<- List.getElem?_map,rel.keys,List.getElem?_map,hkx]
  rfl
 rw[List.getElem?_map] at ha
 cases g:kvs[i]? with
 | none=>rw[g] at ha;cases ha
 | some kv=>
   rw[g] at ha hk'
   cases ha
   have e:kv.1=k:=Option.some.inj hk'
   subst e
   exact Vf hk
theorem So {d:Addr}{kvs:List (Key×V)}{H:Hp}{Q:VK}(h:H d=some (.dK kvs))(hz:kvs.length<=1000000)(k:∀ l H',H l=none->Same H H'->H' l=some (.lst (kvs.map fun kv=>kV kv.1))->Q (.ref l) H'):Yp [.ref d] H Q:=
 ⟨d,kvs,rfl,h,hz,fun l hl=>k l _ hl (Same.upd hl) A9⟩
end
section
variable {P:Program}{w:World}{A:Around}{E:Value->Shared->Prop}{z:Shared}
end
section
variable {P:Program}{w:World}{A:Around}{E:Value->Shared->Prop}{z:Shared}
end
section
variable {P:Program}{w:World}{A:Around}{E:Value->Shared->Prop}{z:Shared}{c TI TO i1 i2 D:Addr}{fp1 fp2:List Addr}{n:Nat}{P1 P2:Nat->Value->Prop}{S1 S2:Nat->Heap->Prop}
end
section
variable {P:Program}{w:World}{κ:Type}[DecidableEq κ]{kd:KeyKind P w κ}{A:Around}{E:Value->Shared->Prop}{c TI TO i1 i2 D:Addr}{fp1 fp2:List Addr}{n:Nat}{P1 P2:Nat->Value->Prop}{S1 S2:Nat->Heap->Prop}
end
section
variable {P:Program}{w:World}{A:Around}{E:Value->Shared->Prop}{z:Shared}
end
section
variable {X:Cx}{K:PySem.W.Frag}
end
section
variable {K:PySem.W.Frag}{H:Hp}{Q:VK}
end
section
variable {K:PySem.W.Frag}{H:Hp}{Q:VK}
end
section
variable {ns ns':List Str}{ps ps' bs:List (Str×Str)}
end
section
variable {ns:List Str}{ps:List (Str×Str)}
end
section
variable {P:Program}{w:World}{A:Around}{E:Value->Shared->Prop}{z:Shared}
end
section
variable {X:Cx}{K:PySem.W.Frag}
end
section
variable {α:Type}[DecidableEq α]{b:α->α->Bool}{L:List α}
end
def aa9:List V->Hp->VK->Prop:=fun xs H Q=>∃ i:Int,xs=[.int i]/\i.natAbs.log2<1920/\Q (.str (toString i)) H
theorem Ri {X:Cx}:CallR X (.builtin "repr") aa9:=by
 intro pins s σ H xs us Q I r h
 obtain⟨i,rfl,hz,q⟩:=h
 obtain⟨u,rfl,t,rfl⟩:=Gi r
 exact PySem.P.repr_of_int hz ⟨.str _,H,I.tok _,⟨_,rfl⟩,q⟩
section
variable {prog:Program}{w:World}{A:Around}{E:Value->Shared->Prop}{h:Heap}{g:Array GenState}{d:Drawn}{t:Nat}{os:OsState}{K:PySem.W.Frag}{C fI:Addr}{rest:List Value}
end
end L2
namespace L2
open PySem PySem.Spec PyProof.Rows
open PySem PySem.Spec PyProof.Rows Builtin Builtin.ObjectAttr
section
variable {prog:Program}{w:World}{A:Around}{E:Value->Shared->Prop}{s:Shared}{K:PySem.W.Frag}{C x:Addr}{name:Str}{v:Value}
end
end L2
namespace L2
open PySem PySem.Spec PyProof.Rows
section
variable {P:Program}{w:World}{H:Hp}{h:Heap}{a C dx:Addr}{od:Option Addr}{fs:List (Str×V)}
end
section
variable {K:PySem.W.Frag}{C B D:Addr}
end
section
variable {X:Cx}{pins:List (Addr×Obj)}{σ:St}{H:Hp}{s:Shared}{a C dx:Addr}{fs:List (Str×V)}{f:Str}{v:V}{A:Around}{E:Value->Shared->Prop}
end
section
variable {X:Cx}{o e value:Expr}{f:Str}{pos pos' tpos:Pos}{ta tv:TE}
end
section
variable {X:Cx}{k:Nat}{f C:Addr}{fd:FuncData}{ps:List Str}{sp:Sp}{x:Str}{p pos:Pos}{e:Expr}{es:List Expr}{t:TA}{pins:List (Addr×Obj)}{σ:St}{H:Hp}{s:Shared}{Q:VK}{us:List Value}{vs:List V}
end
section
variable {X:Cx}{K:PySem.W.Frag}{o e value:Expr}{f:Str}{pos pos':Pos}{ta tv:TE}
end
section
variable {K:PySem.W.Frag}{σ:St}{H:Hp}{Q:VK}{D:Ka}{f:Str}{ta tv:TE}{t:TA}{sp:Sp}{C a dx B G:Addr}{fs:List (Str×V)}{v y:V}{R:Hp->Prop}{vs:List V}
end
section
variable {M:Model}{A:Around}{E:Value->Shared->Prop}{s:Shared}{base:Heap}{env:Env}{outer:List Env}{L a:Addr}{oe:Obj}{vs:Array Value}{Q:Unit->Shared->Prop}
end
section
variable {P:Program}{w:World}{fs:List Addr}{a C:Addr}{od:Option Addr}{oe:Obj}{old:List Addr}{h h':Heap}{H:Hp}{n:Bool}
end
section
variable {P:Program}{w:World}{K:PySem.W.Frag}{mg:Str->Option Value}{base:Heap}{N:List Str}{qual:Str}{scope:Scope}{f:Addr}{cd:Value}{A:Around}{outer:List Env}{s₀:Shared}{H₀:Hp}{E:XK}
end
section
variable {X:Cx}{pins:List (Addr×Obj)}{σ:St}{H:Hp}{s:Shared}
end
section
variable {M:Model}{A:Around}{E:Value->Shared->Prop}{s:Shared}{K:PySem.W.Frag}{C B a:Addr}{oe:Obj}{Q:Bool->Shared->Prop}
end
section
variable {X:Cx}{pins:List (Addr×Obj)}
end
section
variable {X:Cx}{k:Nat}{x:Str}{ps:List Str}{sp:Sp}{e:Expr}{es:List Expr}{t:TA}{p pos:Pos}{E:XK}
end
section
variable {P:Program}{w:World}{K:PySem.W.Frag}{mg:Str->Option Value}{base:Heap}
end
section
variable {K:PySem.W.Frag}{σ:St}{H H0:Hp}{D:Ka}{t:TE}{C a:Addr}{fs:List (Str×V)}{E:XK}
end
section
open Lean
def mWay (s:String):MacroM (TSyntax `tactic):=
 if s == "as" then `(tactic| assumption) else if s == "ar" then `(tactic| with_reducible assumption) else `(tactic| walk_at $(quote s))
def Us (ts:Array (TSyntax `tactic)):MacroM (TSyntax `tactic):=do
 let ts <- ts.mapM fun t=>`(Lean.Parser.Tactic.tacticSeq| $t:tactic)
 `(tactic| first $[| $ts]*)
def mId (s:String):Ident:=mkIdent ((s.splitOn ".").foldl Name.mkStr Name.anonymous)
def mIs (s:String):MacroM Ident:=do return mkIdent (<- Macro.addMacroScope (.mkSimple s))
def Sf:List String->TSyntax `tactic->MacroM (TSyntax `tactic)
 | [],t=>pure t
 | s :: r,t=>do
   match s.splitOn "=" with
   | [x,y]=>let w <- mWay y;let i <- mIs x;Sf r (<- `(tactic| ($t:tactic;(case $i:ident=>$w:tactic))))
   | _=>Sf r t
def mRow (s:String):MacroM (TSyntax `tactic):=do
 match s.splitOn ": " with
 | [h,c]=>
   match h.splitOn " " with
   | f :: as=>
     let xs <- as.toArray.mapM fun a=>do if a == "_" then `(?_) else `(?$(<- mIs a))
     let u:=Syntax.mkApp (mId f) xs
     let t <- if as.contains "_" then `(tactic| with_reducible refine' $u) else `(tactic| refine' $u)
     Sf (c.splitOn " ") t
   | _=>Macro.throwUnsupported
 | _=>do
   if s == "as" then `(tactic| assumption)
   else if s == "no" then `(tactic| fail "no")
   else `(tactic| exact $(mId s))
def mRows (s:String):MacroM (TSyntax `tactic):=do Us (<- (s.splitOn " | ").toArray.mapM mRow)
def mAlts (s:String):MacroM (TSyntax `tactic):=do
 let a <- Us (<- (s.splitOn " ").toArray.mapM fun n=>`(tactic| refine $(mId n) ?_))
 `(tactic| with_reducible $a:tactic)
def mAltG (s:String):MacroM (TSyntax `tactic):=do
 let a <- Us (<- (s.splitOn " ").toArray.mapM fun n=>`(tactic| refine $(mId n) fun N hN=>?_))
 `(tactic| with_reducible $a:tactic)
end
section
open PySem
theorem same_refl {H:Hp}:Same H H:=Same.refl _
theorem fz_refl {H:Hp}:Fz H H:=Fz.refl _
theorem ne_none2 {H:Hp}{a b:PySem.Addr}{o:HO}(h:H a=some o)(g:H b=none):b≠a:=Ne.symm (ne_of_none h g)
def Cut (N M:St->Hp->Prop):Prop:=∀ σ H,M σ H->N σ H
section
variable {t u:TS}{te td ty tv:TE}{g:TG}{D:Ka}{σ:St}{H:Hp}
theorem aa7 (k:∀ N:St->Hp->Prop,Cut N (u D)->t { D with nx:=N } σ H):ai3 t u D σ H:=k (u D) fun _ _ h=>h
theorem i_seqAG (k:∀ N:St->Hp->Prop,Cut N (u D)->a62 te g { D with nx:=N } σ H):ai3 (a62 te g) u D σ H:=k (u D) fun _ _ h=>h
theorem i_cutN {N M:St->Hp->Prop}(h:Cut N M)(k:M σ H):N σ H:=h _ _ k
end
theorem ag5 {α:Type}{P:List α->Prop}{us:List α}(hl:us.length=0)(h:P []):P us:=by
 rw[List.length_eq_zero_iff.mp hl];exact h
theorem Ya {α:Type}{P:List α->Prop}{us:List α}(hl:us.length=1)(h:∀ a0:α,P [a0]):P us:=by
 cases us with
 | nil=>cases hl
 | cons a r=>exact ag5 (P:=fun r=>P (a :: r)) (Nat.succ.inj hl) (h a)
theorem Yj {α:Type}{P:List α->Prop}{us:List α}(hl:us.length=2)(h:∀ a0 a1:α,P [a0,a1]):P us:=by
 cases us with
 | nil=>cases hl
 | cons a r=>exact Ya (P:=fun r=>P (a :: r)) (Nat.succ.inj hl) (h a)
theorem a72 {α:Type}{P:List α->Prop}{us:List α}(hl:us.length=3)(h:∀ a0 a1 a2:α,P [a0,a1,a2]):P us:=by
 cases us with
 | nil=>cases hl
 | cons a r=>exact Yj (P:=fun r=>P (a :: r)) (Nat.succ.inj hl) (h a)
end
section
variable {K:PySem.W.Frag}{x qual:Str}{st:Stmt}{f:Addr}{fd:FuncData}
theorem Fn {p0:Str}(F:Fun K x qual st f fd)(h:∀(kV doc pm:Value) (an:Option Addr) (cdv ct:Value) (u0:Value),bindArgs (PySem.W.fnOf x qual (Ai st) (Af st) (A4 st) .none kV doc pm an cdv ct) ⟨[u0],[]⟩=pure (([p0]:List Str).zip [u0])):Binds K fd [p0] []:=
 F.binds fun kV doc pm an cdv ct us hl=>Ya (P:=fun us=>bindArgs (PySem.W.fnOf x qual (Ai st) (Af st) (A4 st) .none kV doc pm an cdv ct) ⟨us,[]⟩=pure (([p0]:List Str).zip us)) hl (h kV doc pm an cdv ct)
theorem Ej {p0 p1:Str}(F:Fun K x qual st f fd)(h:∀(kV doc pm:Value) (an:Option Addr) (cdv ct:Value) (u0 u1:Value),bindArgs (PySem.W.fnOf x qual (Ai st) (Af st) (A4 st) .none kV doc pm an cdv ct) ⟨[u0,u1],[]⟩=pure (([p0,p1]:List Str).zip [u0,u1])):Binds K fd [p0,p1] []:=
 F.binds fun kV doc pm an cdv ct us hl=>Yj (P:=fun us=>bindArgs (PySem.W.fnOf x qual (Ai st) (Af st) (A4 st) .none kV doc pm an cdv ct) ⟨us,[]⟩=pure (([p0,p1]:List Str).zip us)) hl (h kV doc pm an cdv ct)
theorem Yh {p0 p1 p2:Str}(F:Fun K x qual st f fd)(h:∀(kV doc pm:Value) (an:Option Addr) (cdv ct:Value) (u0 u1 u2:Value),bindArgs (PySem.W.fnOf x qual (Ai st) (Af st) (A4 st) .none kV doc pm an cdv ct) ⟨[u0,u1,u2],[]⟩=pure (([p0,p1,p2]:List Str).zip [u0,u1,u2])):Binds K fd [p0,p1,p2] []:=
 F.binds fun kV doc pm an cdv ct us hl=>a72 (P:=fun us=>bindArgs (PySem.W.fnOf x qual (Ai st) (Af st) (A4 st) .none kV doc pm an cdv ct) ⟨us,[]⟩=pure (([p0,p1,p2]:List Str).zip us)) hl (h kV doc pm an cdv ct)
end
def a85 (K:PySem.W.Frag):R2:=fun x y H Q=>∃ a b xs,x = .ref a/\y = .ref b/\SqL K H a xs/\SqL K H b []/\Q (.bl (!xs.isEmpty)) H
theorem Wf {X:Cx}{K:PySem.W.Frag}(hq:QA X.A)(hK:X.K=K:=by ac_nf):OpR X (compareOp .NotEq) (a85 K):=by
 subst hK
 intro pins s σ H x y v u Q I rx ry h
 obtain⟨a,b,xs,rfl,rfl,ha,hb,q⟩:=h
 cases rx
 cases ry
 obtain⟨its,rv,la,_⟩:=I.list ha
 obtain⟨its2,rv2,lb,_⟩:=I.list hb
 cases rv2
 have hu:X.A.units<cLine:=by have:=hq.un;omega
 have la':s.heap.IsList a its.toArray:=let ⟨o,n,e1,e2,e3,e4⟩:=la;⟨o,e1,e2,_,e4⟩
 have lb':s.heap.IsList b ([]:List Value).toArray:=let ⟨o,n,e1,e2,e3,e4⟩:=lb;⟨o,e1,e2,_,e4⟩
 cases xs with
 | nil=>
   cases rv
   have r:=SeqAt.RcNeAt.lists (A:=X.A) (s:=s) (e:=fun _=>true) la' lb' rfl hu (fun j h1=>absurd h1 (by simp))
   exact r _ _ _ _ ⟨.bl _,H,I,rfl,q⟩
 | cons x r=>
   cases rv with
   | cons r1 r2=>
     have r:=SeqAt.RcNeAt.lists_lengths (A:=X.A) (s:=s) la' lb' (by simp) hu
     exact r _ _ _ _ ⟨.bl _,H,I,rfl,q⟩
theorem Yc {K:PySem.W.Frag}{H:Hp}{Q:VK}{a b:Addr}{xs:List V}(h:SqL K H a xs)(h':SqL K H b [])(k:Q (.bl (!xs.isEmpty)) H):a85 K (.ref a) (.ref b) H Q:=⟨a,b,xs,rfl,rfl,h,h',k⟩
section
open PySem.SeqAt PySem.MeetsSeq
variable {A:Around}{s:Shared}
end
section
variable {prog:Program}{w:World}{A:Around}{E:Value->Shared->Prop}{s:Shared}
set_option maxRecDepth 100000 in
end
section
variable {X:Cx}{pos p2:Pos}
end
section
variable {P:Program}{w:World}{A:Around}{E:Value->Shared->Prop}{z:Shared}
end
section
variable {X:Cx}{K:PySem.W.Frag}
end
section
variable {K:PySem.W.Frag}{H:Hp}{Q:VK}
end
section
variable {X:Cx}{pins:List (Addr×Obj)}{σ:St}{H:Hp}{s:Shared}
end
def ac1 (K:PySem.W.Frag):R2:=fun x y H Q=>∃ a b xs,x = .ref a/\y = .ref b/\SqL K H a xs/\SqL K H b []/\Q (.bl xs.isEmpty) H
theorem Z2 {X:Cx}{K:PySem.W.Frag}(hq:QA X.A)(hK:X.K=K:=by ac_nf):OpR X (compareOp .Eq) (ac1 K):=by
 subst hK
 intro pins s σ H x y v u Q I rx ry h
 obtain⟨a,b,xs,rfl,rfl,ha,hb,q⟩:=h
 cases rx
 cases ry
 obtain⟨its,rv,la,_⟩:=I.list ha
 obtain⟨its2,rv2,lb,_⟩:=I.list hb
 cases rv2
 have hu:X.A.units<cLine:=by have:=hq.un;omega
 have la':s.heap.IsList a its.toArray:=let ⟨o,n,e1,e2,e3,e4⟩:=la;⟨o,e1,e2,_,e4⟩
 have lb':s.heap.IsList b ([]:List Value).toArray:=let ⟨o,n,e1,e2,e3,e4⟩:=lb;⟨o,e1,e2,_,e4⟩
 cases xs with
 | nil=>
   cases rv
   exact SeqAt.eq_listAt (e:=fun _=>true) la' lb' rfl hu (fun j h1=>absurd h1 (by simp)) ⟨.bl _,H,I,rfl,q⟩
 | cons x r=>
   cases rv with
   | cons r1 r2=>exact SeqAt.eq_list_lengthsAt la' lb' (by simp) hu ⟨.bl _,H,I,rfl,q⟩
theorem a90 {K:PySem.W.Frag}{H:Hp}{Q:VK}{a b:Addr}{xs:List V}(h:SqL K H a xs)(h':SqL K H b [])(k:Q (.bl xs.isEmpty) H):ac1 K (.ref a) (.ref b) H Q:=⟨a,b,xs,rfl,rfl,h,h',k⟩
mutual
def af7:PyData->Bool
 | .str z=>z.cps.toList.all fun c=>decide (c<128)
 | .list ds=>a58 ds
 | .tuple ds=>a58 ds
 | .dict _=>false
 | _=>true
def a58:List PyData->Bool
 | []=>true
 | d :: ds=>af7 d&&a58 ds
end
mutual
def ac5:PyData->Nat
 | .list ds=>max ds.length (a56 ds)
 | .tuple ds=>max ds.length (a56 ds)
 | _=>0
def a56:List PyData->Nat
 | []=>0
 | d :: ds=>max (ac5 d) (a56 ds)
end
structure Dk (p w W:Nat)(D:PyData):Prop where
 asc:af7 D=true
 lay:D.canLay0=true
 sh:D.showable=true
 lv:D.leavesShort 45=true
 dp:D.depth<=p
 wt:D.weight<=w
 wd:ac5 D<=W
structure Els (p w W:Nat)(ds:List PyData):Prop where
 all:∀ e∈ds,∃ u,Dk p u W e
 wt:PyData.weightAll ds<=w
 len:ds.length<=W
theorem Dk.le {p w W p' w' W':Nat}{D:PyData}(h:Dk p w W D)(h1:p<=p')(h2:w<=w')(h3:W<=W':=by omega):Dk p' w' W' D:=⟨h.asc,h.lay,h.sh,h.lv,Nat.le_trans h.dp h1,Nat.le_trans h.wt h2,Nat.le_trans h.wd h3⟩
theorem Wb {p W:Nat}:∀ {ds:List PyData},(∀ e∈ds,∃ u,Dk p u W e)->a58 ds=true/\PyData.canLayAll0 ds=true/\PyData.showableAll ds=true/\PyData.leavesShortAll 45 ds=true/\PyData.depthAll ds<=p/\a56 ds<=W
 | [],_=>⟨by simp only[a58],by simp only[PyData.canLayAll0],by simp only[PyData.showableAll],by simp only[PyData.leavesShortAll],by simp only[PyData.depthAll];omega,by simp only[a56];omega⟩
 | d :: ds,h=>by
   obtain⟨u,a⟩:=h d (by simp)
   obtain⟨b0,b1,b2,b3,b4,b5⟩:=Wb (ds:=ds) fun e he=>h e (by simp[he])
   have:=a.dp
   have:=a.wd
   exact⟨by simp only[a58,a.asc,b0,Bool.and_self],by simp only[PyData.canLayAll0,a.lay,b1,Bool.and_self],by simp only[PyData.showableAll,a.sh,b2,Bool.and_self],by simp only[PyData.leavesShortAll,a.lv,b3,Bool.and_self],by simp only[PyData.depthAll];omega,by simp only[a56];omega⟩
theorem Wh {p w W:Nat}{ds:List PyData}(h:Els p w W ds):Dk (p+1) w W (.tuple ds):=by
 obtain⟨a0,a1,a2,a3,a4,a5⟩:=Wb h.all
 have:=h.len
 exact⟨by simpa only[af7] using a0,by simpa only[PyData.canLay0] using a1,by simpa only[PyData.showable] using a2,by simpa only[PyData.leavesShort] using a3,by simp only[PyData.depth];omega,by simpa only[PyData.weight] using h.wt,by simp only[ac5];omega⟩
theorem Yk:∀ as bs:List PyData,PyData.weightAll (as++bs)=PyData.weightAll as+PyData.weightAll bs
 | [],bs=>by simp only[List.nil_append,PyData.weightAll];omega
 | a :: as,bs=>by
   have:=Yk as bs
   simp only[List.cons_append,PyData.weightAll]
   omega
theorem Els.app {p w w' W:Nat}{as bs:List PyData}(h:Els p w W as)(g:Els p w' W bs){W':Nat}(hl:as.length+bs.length<=W')(hW:W<=W'):Els p (w+w') W' (as++bs):=
 ⟨fun e he=>let ⟨u,k⟩:=(List.mem_append.mp he).elim (h.all e) (g.all e);⟨u,k.le (Nat.le_refl _) (Nat.le_refl _) hW⟩,by rw[Yk];exact Nat.add_le_add h.wt g.wt,by rw[List.length_append];exact hl⟩
theorem Els.one {p w W:Nat}{D:PyData}(h:Dk p w W D)(hW:1<=W):Els p (w+1) W [D]:=⟨fun e he=>by rw[List.mem_singleton.mp he];exact⟨w,h⟩,by simp only[PyData.weightAll];have:=h.wt;omega,by simpa using hW⟩
def Asc (z:Str):Prop:=∀ c∈z.cps.toList,c<128
theorem Asc.ok {z:Str}(h:Asc z):PyData.strOk z=true:=by
 unfold PyData.strOk
 rw[<- Array.all_toList,List.all_eq_true]
 intro c hc
 have:=h c hc
 exact decide_eq_true (by omega)
theorem ah4 {p w W:Nat}{z:Str}(h:Asc z)(hl:z.length<=w):Dk p w W (.str z):=by
 refine⟨?_,by simpa only[PyData.canLay0] using h.ok,by simp only[PyData.showable],?_,by simp only[PyData.depth];omega,by simp only[PyData.weight];exact hl,by simp only[ac5];omega⟩
 . simp only[af7]
   rw[List.all_eq_true]
   exact fun c hc=>decide_eq_true (h c hc)
 simp only[PyData.leavesShort]
 rw[List.all_eq_true]
 intro c hc
 have:=h c hc
 exact decide_eq_true (by omega)
section
variable {X:Cx}{K:PySem.W.Frag}
end
section
variable {X:Cx}{K:PySem.W.Frag}
def W7 (K:PySem.W.Frag):List V->Hp->VK->Prop:=fun xs H Q=>∃ x d,xs=[x]/\Is K H d x/\d.showable=true/\d.shown.length<=sizeLine/\d.depth<=100/\Q (.str d.shown) H
theorem Rv (hq:QA X.A):CallR X (.builtin "repr") (W7 X.K):=by
 intro pins s σ H xs us Q I rv h
 obtain⟨x,d,rfl,i,hs,hf,hd,q⟩:=h
 cases d with
 | none=>
   simp only[Is] at i
   subst i
   exact Ke pins s σ H _ us Q I rv (.inr ⟨rfl,q⟩)
 | bool b=>
   simp only[Is] at i
   subst i
   refine Ke pins s σ H _ us Q I rv (.inl ⟨b,rfl,?_⟩)
   cases b<;>exact q
 | int n=>
   simp only[Is] at i
   subst i
   exact Ri pins s σ H _ us Q I rv ⟨n,rfl,of_decide_eq_true (by simpa only[PyData.showable] using hs),q⟩
 | str z=>
   simp only[Is] at i
   subst i
   obtain⟨u,rfl,ru⟩:=rv.one
   obtain⟨t,rfl⟩:=ru
   exact PySem.P.repr_of_str ⟨.str _,H,I.tok _,⟨_,rfl⟩,q⟩ hf
 | list ds=>exact Km hq pins s σ H _ us Q I rv ⟨x,_,rfl,i,⟨rfl,hs,hf,hd⟩,q⟩
 | tuple ds=>exact Km hq pins s σ H _ us Q I rv ⟨x,_,rfl,i,⟨rfl,hs,hf,hd⟩,q⟩
 | dict kvs=>simp only[Is] at i
theorem Ix (hq:QA X.A)(hK:X.K=K:=by ac_nf):CallR X (.builtin "repr") (W7 K):=hK ▸ Rv hq
theorem Tp {H:Hp}{Q:VK}{d:PyData}{x:V}(h:Is K H d x)(h1:d.showable=true)(h2:d.shown.length<=sizeLine)(h3:d.depth<=100)(k:Q (.str d.shown) H):W7 K [x] H Q:=⟨x,d,rfl,h,h1,h2,h3,k⟩
theorem Dk.told {p w W:Nat}{D:PyData}(h:Dk p w W D)(hp:p<=60)(hw:w<=100000):D.showable=true/\D.shown.length<=sizeLine/\D.depth<=100:=by
 have h2:=PyData.shown_le 45 (by decide) D h.lv
 have h3:=h.wt
 have h4:=h.dp
 refine⟨h.sh,?_,by omega⟩
 rw[sizeLine_eq]
 omega
end
section
variable {prog:Program}{w:World}{A:Around}{E:Value->Shared->Prop}{s:Shared}
end
section
variable {P:Program}{w:World}{A:Around}{R:Result->Shared->Prop}{it:Addr}{fp wr:List Addr}{G:Array GenState->Array GenState->Prop}{n:Nat}{PV:Nat->Value->Prop}{St:Nat->Shared->Prop}
end
section
variable {prog:Program}{w:World}{A:Around}{E:Value->Shared->Prop}{s:Shared}
set_option maxHeartbeats 3200000 in
end
section
variable {prog:Program}{w:World}{A:Around}{E:Value->Shared->Prop}{s:Shared}
end
section
variable {prog:Program}{w:World}{A:Around}{E:Value->Shared->Prop}{s:Shared}
end
section
variable {prog:Program}{w:World}{A:Around}{E:Value->Shared->Prop}{s:Shared}
end
section
variable {prog:Program}{w:World}{A:Around}{E:Value->Shared->Prop}{s:Shared}
end
section
variable {X:Cx}{K:PySem.W.Frag}
end
end L2
namespace L2
open PySem PySem.Spec PyProof.Rows
open Builtin
section
variable {X:Cx}{K:PySem.W.Frag}
end
end L2
namespace L2
open PySem PySem.Spec PyProof.Rows
section
variable {P:Program} {w:World} {K:PySem.W.Frag} {mg:Str->Option Value} {base:Heap} {k:Nat} {f:Addr} {fd:FuncData} {ps:List Str} {sp sp':Sp}
end
theorem Io:∀(k fuel n:Nat) (ds:List Char),1<=k->n<10 ^ k->(Nat.toDigitsCore 10 fuel n ds).length<=ds.length+k
 | _,0,n,ds,_,_=>by simp[Nat.toDigitsCore]
 | k,fuel+1,n,ds,hk,hn=>by
   unfold Nat.toDigitsCore
   dsimp only
   split
   . simp;omega
   rename_i h0
   cases k with
   | zero=>omega
   | succ k=>
     have h1:n / 10<10 ^ k:=by
      rw[Nat.div_lt_iff_lt_mul (by omega)]
      rw[Nat.pow_succ] at hn
      exact hn
     have hk1:1<=k:=by
      cases k with
      | zero=>simp at h1;omega
      | succ _=>omega
     have:=Io k fuel (n / 10) (Nat.digitChar (n % 10) :: ds) hk1 h1
     rw[List.length_cons] at this
     omega
theorem Z7 (s:String):(s:Str).length=s.toList.length:=by
 show(Str.ofString s).cps.size=_
 rw[Str.ofString_eq_byList]
 unfold Str.ofStringByList
 simp
theorem Pi {n:Nat}(h:n<10 ^ 44):(Nat.repr n).toList.length<=44:=by
 unfold Nat.repr Nat.toDigits
 have:=Io 44 (n+1) n [] (by omega) h
 simpa using this
theorem Tt {m:Int} (h:m.natAbs<10 ^ 44):(PyData.int m).shown.length<=45:=by
 simp only[PyData.shown]
 rw[Z7]
 cases m with
 | ofNat n=>
   have:(toString (Int.ofNat n):String)=Nat.repr n:=rfl
   rw[this]
   exact Nat.le_trans (Pi h) (by omega)
 | negSucc n=>
   have:(toString (Int.negSucc n):String) = "-" ++ Nat.repr (n+1):=rfl
   rw[this]
   have h2:=Pi (n:=n+1) h
   rw[String.toList_append,List.length_append]
   have:("-":String).toList.length=1:=by decide
   omega
theorem Zh {m:Int}(h:m.natAbs<10 ^ 44):m.natAbs.log2<147:=by
 by_cases h0:m.natAbs=0
 . rw[h0];decide
 exact(Nat.log2_lt h0).mpr (Nat.lt_trans h (by decide))
theorem a67 {p W:Nat}{m:Int}(h:m.natAbs<10 ^ 44):Dk p 150 W (.int m):=by
 have hl:=Zh h
 refine⟨by simp only[af7],by simp only[PyData.canLay0],?_,?_,by simp only[PyData.depth];omega,?_,by simp only[ac5];omega⟩
 . simp only[PyData.showable]
   exact decide_eq_true (by omega)
 . simp only[PyData.leavesShort]
   exact decide_eq_true (Tt h)
 simp only[PyData.weight]
 split<;>omega
section
variable {P:Program}{w:World}{A:Around}{E:Value->Shared->Prop}{z:Shared}
end
section
variable {X:Cx}{K:PySem.W.Frag}
end
section
variable {K:PySem.W.Frag}{σ:St}{H:Hp}{Q:VK}
end
section
variable {X:Cx}{K:PySem.W.Frag}{H:Hp}{Q:VK}
end
section
variable {X:Cx}{K:PySem.W.Frag}
end
section
variable {α:Type}[DecidableEq α]
end
section
variable {α:Type}[DecidableEq α]
end
section
variable {α:Type}[DecidableEq α]
end
section
variable {X:Cx}{pins:List (Addr×Obj)}{σ:List (Option V)}{H:Hp}{s:Shared}{h':Heap}
theorem Inv.nsed {t':Nat}(I:Inv X pins σ H s)(k:∀ b u,b≠X.env.locals->s.heap.get? b=some u->h'.get? b=some u){m:Str->Option Value}(hlk:∀(i:Nat) (x:Str) (v:V),X.N[i]? = some x->σ[i]? = some (some v)->Vis X.env.scope x->∃ u,RelV v u/\ao2 X.env s.heap m x u)(hns:h'.Ns X.env.locals m):Inv X pins σ H { s with heap:=h',toks:=t' }:=by
 have low:∀ b o,X.s₀.heap.get? b=some o->b≠X.env.locals:=fun b o q e=>by
  have h1:=Heap.lt_size q
  have h2:=I.ok.above
  rw[e] at h1
  exact absurd (Nat.lt_of_lt_of_le h1 h2) (Nat.lt_irrefl _)
 refine⟨I.ok,I.os,I.bare,⟨fun b o q n hf hx=>k b o (low b o q) (I.base.keep b o q n hf hx),fun b o q n hf hx=>?_,I.base.free,fun b o q hx=>?_,I.base.tups,I.base.frzs,I.base.tbls⟩,?_,fun x c e=>?_,I.free,I.freeC,fun p hp=>?_,fun a o e=>?_,I.len⟩
 . obtain⟨sl,e⟩:=I.base.slot b o q n hf hx
   exact⟨sl,k b _ (low b o q) e⟩
 . obtain⟨o',e⟩:=I.base.there b o q hx
   exact⟨o',k b _ (low b o q) e⟩
 . refine⟨m,hns,fun i x v a b c=>?_⟩
   obtain⟨u,r,l⟩:=hlk i x v a b c
   refine⟨u,r,?_⟩
   rcases l with l | ⟨l1,c,l2,l3⟩
   . exact .inl l
   obtain⟨o,e1,e2⟩:=l3
   exact .inr ⟨l1,c,l2,o,k c o (I.cne x c l2) e1,e2⟩
 . obtain⟨v,o,e1,e2⟩:=I.cell x c e
   exact⟨v,o,k c o (I.cne x c e) e1,e2⟩
 . obtain⟨h1,h2,h3,h4,h5⟩:=I.pin p hp
   exact⟨k _ _ h3 h1,h2,h3,h4,h5⟩
 refine(I.hok a o e).stay (fun b u hb q=>k b u (fun z=>?_) q) (fun _ q=>q) fun _ _ q=>q
 have:=I.free
 rcases hb with rfl | hb
 . rw[z] at e
   rw[e] at this
   cases this
 rw [z,this] at hb
 cases hb
theorem Mg {g h:Heap}{L:Addr}(hb:∀ b o,g.get? b=some o->h.get? b=some o)(hb':∀ b o,g.get? b=some o->h'.get? b=some o){more:List (Addr×Obj)}(N:News g L h' (Fm g h L++more)):∀ b u,b≠L->h.get? b=some u->h'.get? b=some u:=fun b u n e=>by
 cases hc:g.get? b with
 | some o=>
   have:=hb b o hc
   rw[e] at this
   cases this
   exact hb' b u hc
 | none=>exact(N (b,u) (List.mem_append_left _ (Ow n hc e))).1
variable {K:PySem.W.Frag}
end
section
variable {α:Type}[DecidableEq α]
end
section
variable {α:Type}[DecidableEq α]
end
section
variable {α:Type}[DecidableEq α]
variable {β:Type}[DecidableEq β]
end
section
variable {X:Cx}{k:Nat}{x:Str}{ps:List Str}{sp:Sp}{e:Expr}{es:List Expr}{t:TA}{p pos:Pos}{E:St->XK}
end
section
variable {X:Cx}{pins:List (Addr×Obj)}
end
section
variable {α:Type}[DecidableEq α]
end
section
variable {ns ns':List Str}{ps ps':List (Str×Str)}
variable {qs:List (Str×Str)}
end
section
variable {M:Model}{A:Around}{E:Value->Shared->Prop}{s:Shared}{base:Heap}{env:Env}{outer:List Env}{L a:Addr}{oe:Obj}{vs:Array Value}{Q:Unit->Shared->Prop}
end
section
variable {P:Program}{w:World}{fs:List Addr}{a C:Addr}{od:Option Addr}{oe:Obj}{old:List Addr}{h h':Heap}{H:Hp}{n:Bool}
end
section
variable {P:Program}{w:World}{K:PySem.W.Frag}{mg:Str->Option Value}{base:Heap}{N:List Str}{qual:Str}{scope:Scope}{f:Addr}{cd:Value}{A:Around}{outer:List Env}{s₀:Shared}{H₀:Hp}{E:XK}
end
section
variable {P:Program}{w:World}{K:PySem.W.Frag}{mg:Str->Option Value}{base:Heap}{N:List Str}{qual:Str}{scope:Scope}{f:Addr}{cd:Value}{A:Around}{outer:List Env}{s₀:Shared}{H₀:Hp}{E:XK}
end
section
variable {X:Cx}{scope:Scope}{xs fr:List Str}{pins:List (Addr×Obj)}{σ:St}{H:Hp}{s:Shared}{js:List Nat}{fp:List Addr}
end
section
variable {X:Cx}{k:Nat}{C:Addr}{m:Str}{ps:List Str}{sp:Sp}{e o:Expr}{es:List Expr}{ta:TE}{t:TA}{p pos apos:Pos}{E:XK}
end
section
variable {σ:St}{H:Hp}{Q:VK}{C:Addr}{m:Str}{sp:Sp}{ta:TE}{t:TA}{E:XK}
end
section
variable {P:Program}{w:World}{K:PySem.W.Frag}{mg:Str->Option Value}{base:Heap}
end
section
variable {X:Cx}{k:Nat}{x:Str}{ps:List Str}{sp:Sp}{e:Expr}{es:List Expr}{t:TA}{p pos:Pos}
end
section
variable {X:Cx}
end
section
variable {α:Type}[DecidableEq α]{b:α->α->Bool}
def Grow (b:α->α->Bool)(R:List α->Prop):List (List α)->List (List α)->Prop
 | _,[]=>True
 | T,M :: B=>(∀ x∈frF b M,Aa M x∈T)/\(R M\/∃ N∈B,∃ x∈frF b N,M=Aa N x)/\Grow b R (T++[M]) B
theorem Grow.mono {R R':List α->Prop}(h:∀ M,R M->R' M):∀ {T A:List (List α)},Grow b R T A->Grow b R' T A
 | _,[],_=>trivial
 | T,M :: B,⟨h1,h2,h3⟩=>⟨h1,h2.imp (h M) id,Grow.mono h h3⟩
theorem Grow.app {R:List α->Prop}:∀ {T A B:List (List α)},Grow b R T A->Grow b R (T++A) B->Grow b R T (A++B)
 | T,[],B,_,h=>by simpa using h
 | T,M :: A,B,⟨h1,h2,h3⟩,h=>⟨h1,h2.imp id (fun⟨N,hN,r⟩=>⟨N,List.mem_append_left _ hN,r⟩),Grow.app h3 (by simpa using h)⟩
theorem Grow.close {L:List α}:∀ {T A:List (List α)},Grow b (fun M=>∃ x∈frF b L,M=Aa L x) T A->(∀ x∈frF b L,Aa L x∈T++A)->Grow b (· = L) T (A++[L])
 | T,[],_,h=>⟨by simpa using h,.inl rfl,trivial⟩
 | T,M :: A,⟨h1,h2,h3⟩,h=>⟨h1,.inr (by
   rcases h2 with ⟨x,hx,e⟩ | ⟨N,hN,r⟩
   . exact⟨L,by simp,x,hx,e⟩
   exact⟨N,List.mem_append_left _ hN,r⟩),Grow.close h3 (by simpa using h)⟩
theorem Grow.at {R:List α->Prop}:∀ {T A D:List (List α)} {M:List α},Grow b R T (A++M :: D)->(∀ x∈frF b M,Aa M x∈T++A)/\(R M\/∃ N∈D,∃ x∈frF b N,M=Aa N x)
 | T,[],D,M,⟨h1,h2,h3⟩=>⟨by simpa using h1,h2⟩
 | T,N :: A,D,M,⟨h1,h2,h3⟩=>by
   have:=Grow.at (T:=T++[N]) (A:=A) h3
   simpa using this
end
def ind (L:List Str):List Str->Nat:=fun M=>if M=L then 1 else 0
theorem Lc {ns:List Str}{p q:Str->Bool}(h:ns.filter p=ns.filter q):Ao ns p=Ao ns q:=Hm fun x hx=>by
 have h1:x∈ns.filter p↔x∈ns.filter q:=by rw[h]
 rw[List.mem_filter,List.mem_filter] at h1
 cases hp:p x<;>cases hq:q x<;>simp_all
theorem J0 {ns:List Str}{p q:Str->Bool}(h:Ao ns p=Ao ns q):ns.filter p=ns.filter q:=List.filter_congr fun x hx=>Gs h x hx
theorem Rc {ns:List Str}{F G:List Str->Nat}{ct:List ((Str->Bool)×Nat)}(h:∀ e∈ct,F (ns.filter e.1)=G (ns.filter e.1)):Er ns F ct=Er ns G ct:=by
 unfold Er
 congr 1
 exact List.map_congr_left fun e he=>by rw[h e he]
def Eo (ns:List Str)(ct:List ((Str->Bool)×Nat)):List (List Str):=ct.map fun e=>ns.filter e.1
theorem com_keys {ns:List Str}{ct:List ((Str->Bool)×Nat)}{q:Str->Bool}:(Sum.inl ((Ao ns q:Nat):Int):Key)∈(Fg ns ct).map (·.1)↔ns.filter q∈Eo ns ct:=by
 unfold Fg Eo
 rw[List.map_map,List.mem_map,List.mem_map]
 constructor
 . rintro⟨e,he,h⟩
   refine⟨e,he,J0 ?_⟩
   have:=Sum.inl.inj h
   omega
 rintro ⟨e,he,h⟩
 exact⟨e,he,by show(Sum.inl ((Ao ns e.1:Nat):Int):Key)=_;rw[Lc h]⟩
theorem Qb {ns:List Str}{L:List Str}:∀ {ct:List ((Str->Bool)×Nat)},L∉Eo ns ct->Er ns (ind L) ct=0
 | [],_=>rfl
 | e :: r,h=>by
   have h:L∉(ns.filter e.1) :: Eo ns r:=h
   rw[List.mem_cons,not_or] at h
   rw[Bi,Qb h.2]
   unfold ind
   rw[if_neg (fun z=>h.1 z.symm)]
   rfl
theorem Nv {ns:List Str}{q:Str->Bool}:∀ {ct:List ((Str->Bool)×Nat)},Li ns ct->ns.filter q∈Eo ns ct->Cg (Fg ns ct) (Sum.inl ((Ao ns q:Nat):Int):Key)=some (.int ((Er ns (ind (ns.filter q)) ct:Nat):Int))
 | [],_,h=>by cases h
 | e :: r,hO,h=>by
   have hO':((Sum.inl ((Ao ns e.1:Nat):Int):Key) :: (Fg ns r).map (·.1)).Nodup:=hO
   obtain⟨h1,h2⟩:=List.nodup_cons.mp hO'
   have hk:ns.filter e.1∉Eo ns r:=fun z=>h1 (com_keys.mpr z)
   have h:ns.filter q∈(ns.filter e.1) :: Eo ns r:=h
   by_cases c:ns.filter e.1=ns.filter q
   . show Cg ((Sum.inl ((Ao ns e.1:Nat):Int),V.int ((e.2:Nat):Int)) :: Fg ns r) _=_
     rw[Ax (by rw[Lc c]),Bi,Qb (c ▸ hk)]
     unfold ind
     rw[if_pos c,Nat.mul_one,Nat.add_zero]
   rcases List.mem_cons.mp h with h | h
   . exact absurd h.symm c
   have hne:¬ (Sum.inl ((Ao ns e.1:Nat):Int):Key)=Sum.inl ((Ao ns q:Nat):Int):=fun z=>c (J0 (by have:=Sum.inl.inj z;omega))
   show Cg ((Sum.inl ((Ao ns e.1:Nat):Int),V.int ((e.2:Nat):Int)) :: Fg ns r) _=_
   rw[Aw hne,Nv h2 h,Bi]
   unfold ind
   rw[if_neg c,Nat.mul_zero,Nat.zero_add]
theorem Tg {ns:List Str}{F F':List Str->Nat}{L:List Str}(h:∀ M,M≠L->F M=F' M)(ct:List ((Str->Bool)×Nat)):Er ns F ct+Er ns (ind L) ct*F' L=Er ns F' ct+Er ns (ind L) ct*F L:=by
 induction ct with
 | nil=>simp[Er]
 | cons e r ih=>
   rw[Bi,Bi,Bi,Nat.add_mul,Nat.add_mul]
   by_cases c:ns.filter e.1=L
   . rw[c]
     unfold ind at ih ⊢
     rw[if_pos rfl,Nat.mul_one]
     omega
   rw[h _ c]
   unfold ind at ih ⊢
   rw[if_neg c,Nat.mul_zero,Nat.zero_mul,Nat.zero_mul]
   omega
theorem Gf {β:Type}(f g:β->Nat):∀ l:List β,(l.map fun x=>f x+g x).sum=(l.map f).sum+(l.map g).sum
 | []=>rfl
 | x :: r=>by rw[List.map_cons,List.sum_cons,Gf f g r,List.map_cons,List.sum_cons,List.map_cons,List.sum_cons];omega
theorem T6 {β:Type}(f:β->Nat)(c:Nat):∀ l:List β,(l.map fun x=>c*f x).sum=c*(l.map f).sum
 | []=>rfl
 | x :: r=>by rw[List.map_cons,List.sum_cons,T6 f c r,List.map_cons,List.sum_cons,Nat.mul_add]
theorem Vi {L:List Str}{F:List Str->Nat}:∀ {all:List (List Str)},all.Nodup->L∈all->(all.map fun M=>ind M L*F M).sum=F L
 | [],_,h=>by cases h
 | M :: r,hn,h=>by
   obtain⟨h1,h2⟩:=List.nodup_cons.mp hn
   rw[List.map_cons,List.sum_cons]
   by_cases c:L=M
   . subst c
     have:(r.map fun M=>ind M L*F M).sum=0:=by
      rw[show(r.map fun M=>ind M L*F M)=r.map fun _=>0 from List.map_congr_left fun M hM=>by
       unfold ind
       rw[if_neg (fun z:L=M=>h1 (z ▸ hM)),Nat.zero_mul]]
      clear h h1 h2 hn
      induction r with
      | nil=>rfl
      | cons x r ih=>simpa using ih
     rw[this]
     unfold ind
     rw[if_pos rfl]
     omega
   rcases List.mem_cons.mp h with h | h
   . exact absurd h c
   rw[Vi h2 h]
   unfold ind
   rw[if_neg c]
   omega
theorem Qa {ns:List Str}{F:List Str->Nat}{all:List (List Str)}(hn:all.Nodup):∀ {ct:List ((Str->Bool)×Nat)},(∀ L∈Eo ns ct,L∈all)->(all.map fun L=>Er ns (ind L) ct*F L).sum=Er ns F ct
 | [],h=>by
   show(all.map fun L=>0*F L).sum=0
   clear hn h
   induction all with
   | nil=>rfl
   | cons x r ih=>rw[List.map_cons,List.sum_cons,ih,Nat.zero_mul]
 | e :: r,h=>by
   have h1:ns.filter e.1∈all:=h _ (List.mem_cons_self ..)
   rw[Bi,<- Qa hn (ct:=r) (fun L hL=>h L (List.mem_cons_of_mem _ hL)),<- Vi hn h1 (F:=F)]
   rw[<- T6,<- Gf]
   congr 1
   refine List.map_congr_left fun L _=>?_
   rw[Bi,Nat.add_mul,Nat.mul_assoc]
def Gm (D:List (List Str))(W loc:List Str->Nat):List Str->Nat:=fun L=>if L∈D then loc L else W L
def Rec (b:Str->Str->Bool)(W loc:List Str->Nat):Prop:=∀ L,L.Nodup->W L=loc L+((frF b L).map fun x=>W (Aa L x)).sum
theorem tele {b:Str->Str->Bool}{ns:List Str}{W loc:List Str->Nat}{D:List (List Str)}{M:List Str}{ct ct':List ((Str->Bool)×Nat)}{w:Nat}(hR:Rec b W loc)(hM:M.Nodup)(hD:M∉D)(hn:∀ x∈frF b M,Aa M x∉M :: D)(h0:Er ns (Gm D W loc) ct=w)
  (h:∀ F,Er ns F ct'=Er ns F ct+Er ns (ind M) ct*((frF b M).map fun x=>F (Aa M x)).sum):Er ns (Gm (M :: D) W loc) ct'=w:=by
 rw[h]
 have h1:((frF b M).map fun x=>Gm (M :: D) W loc (Aa M x))=(frF b M).map fun x=>W (Aa M x):=List.map_congr_left fun x hx=>by
  unfold Gm
  rw[if_neg (hn x hx)]
 rw[h1]
 have h2:=Tg (ns:=ns) (F:=Gm D W loc) (F':=Gm (M :: D) W loc) (L:=M) (fun N hN=>by
  unfold Gm
  by_cases c:N∈D
  . rw[if_pos c,if_pos (List.mem_cons_of_mem _ c)]
  rw[if_neg c,if_neg (fun z=>by rcases List.mem_cons.mp z with z | z;exact hN z;exact c z)]) ct
 have h3:Gm (M :: D) W loc M=loc M:=by unfold Gm;rw[if_pos (List.mem_cons_self ..)]
 have h4:Gm D W loc M=W M:=by unfold Gm;rw[if_neg hD]
 rw[h3,h4,hR M hM,Nat.mul_add,h0] at h2
 omega
theorem Os {a x:Str}{r:List Str}(h:a≠x):(a :: r).idxOf x=r.idxOf x+1:=by
 rw[List.idxOf_cons]
 have:(a==x)=false:=by simpa using h
 rw[this]
 rfl
def ahN (b:Str->Str->Bool)(x y:Str)(L:List Str):Nat:=if x∈L/\y∈L then((ext b L.length L).filter fun r=>decide (r.idxOf x<r.idxOf y)).length else 0
def Y8 (b:Str->Str->Bool)(x y:Str)(L:List Str):Nat:=if x∈frF b L/\y∈Aa L x then cnt b (Aa L x) else 0
theorem Ni {α β:Type}(f:α->List β):∀ l:List α,(l.flatMap f).length=(l.map fun x=>(f x).length).sum
 | []=>rfl
 | x :: r=>by rw[List.flatMap_cons,List.length_append,Ni f r,List.map_cons,List.sum_cons]
theorem Pw {α β:Type}(f:α->List β)(p:β->Bool):∀ l:List α,(l.flatMap f).filter p=l.flatMap fun x=>(f x).filter p
 | []=>rfl
 | x :: r=>by rw[List.flatMap_cons,List.filter_append,Pw f p r,List.flatMap_cons]
theorem Ot {α:Type}{p:α->Bool}{l:List α}(h:∀ x∈l,p x=true):(l.filter p).length=l.length:=by rw[List.filter_eq_self.mpr h]
theorem Hs {α:Type}{p:α->Bool}{l:List α}(h:∀ x∈l,p x=false):(l.filter p).length=0:=by rw[List.filter_eq_nil_iff.mpr fun x hx=>by rw[h x hx];decide];rfl
theorem a36 {b:Str->Str->Bool}{x y:Str}{L:List Str}(hn:L.Nodup)(c:Nat):((frF b L).map fun z=>if z=x then c else 0).sum=if x∈frF b L then c else 0:=by
 have hn':(frF b L).Nodup:=List.Nodup.sublist List.filter_sublist hn
 generalize frF b L=l at hn' ⊢
 induction l with
 | nil=>rfl
 | cons z r ih=>
   obtain⟨h1,h2⟩:=List.nodup_cons.mp hn'
   rw[List.map_cons,List.sum_cons,ih h2]
   by_cases c1:z=x
   . subst c1
     rw[if_pos rfl,if_neg h1,if_pos (List.mem_cons_self ..)]
     rfl
   rw[if_neg c1,Nat.zero_add]
   by_cases c2:x∈r
   . rw[if_pos c2,if_pos (List.mem_cons_of_mem _ c2)]
   rw[if_neg c2,if_neg (fun z=>by rcases List.mem_cons.mp z with z | z;exact c1 z.symm;exact c2 z)]
theorem a98 {b:Str->Str->Bool}{x y:Str}(hxy:x≠y):Rec b (ahN b x y) (Y8 b x y):=fun L hn=>by
 by_cases hm:x∈L/\y∈L
 . have hpos:L≠[]:=fun z=>by rw[z] at hm;cases hm.1
   obtain⟨n,hl⟩:∃ n,L.length=n+1:=⟨L.length-1,by have:=List.length_pos_iff.mpr hpos;omega⟩
   have h1:ahN b x y L=((frF b L).map fun z=>(if z=x then cnt b (Aa L x) else 0)+ahN b x y (Aa L z)).sum:=by
    unfold ahN
    rw[if_pos hm,hl]
    show(((frF b L).flatMap fun z=>(ext b n (Aa L z)).map (z :: ·)).filter _).length=_
    rw[Pw,Ni]
    congr 1
    refine List.map_congr_left fun z hz=>?_
    have hzL:=(mem_frF.mp hz).1
    have hlen:(Aa L z).length=n:=by have:=B9 hn hzL;omega
    have hper:∀ r∈ext b n (Aa L z),r.Perm (Aa L z):=fun r hr=>((Ea b n (Aa L z) r (Be hn z) hlen).mp hr).1
    rw[List.filter_map,List.length_map]
    by_cases c1:z=x
    . subst c1
      rw[if_pos rfl,if_neg (fun q=>(mem_lessF.mp q.1).2 rfl),Nat.add_zero,Ot]
      . unfold cnt
        rw[hlen]
      intro r hr
      have hy:y∈r:=(hper r hr).mem_iff.mpr (mem_lessF.mpr ⟨hm.2,hxy.symm⟩)
      refine decide_eq_true ?_
      show(z :: r).idxOf z<(z :: r).idxOf y
      rw[List.idxOf_cons_self,Os hxy]
      omega
    rw[if_neg c1,Nat.zero_add]
    by_cases c2:z=y
    . subst c2
      rw[if_neg (fun q=>(mem_lessF.mp q.2).2 rfl),Hs]
      intro r hr
      refine decide_eq_false ?_
      show ¬ (z :: r).idxOf x<(z :: r).idxOf z
      rw[List.idxOf_cons_self]
      omega
    rw[if_pos ⟨mem_lessF.mpr ⟨hm.1,fun q=>c1 q.symm⟩,mem_lessF.mpr ⟨hm.2,fun q=>c2 q.symm⟩⟩,hlen]
    congr 1
    refine List.filter_congr fun r hr=>?_
    show decide ((z :: r).idxOf x<(z :: r).idxOf y)=_
    rw[Os c1,Os c2]
    by_cases q:r.idxOf x<r.idxOf y
    . rw[decide_eq_true q,decide_eq_true (by omega)]
    rw[decide_eq_false q,decide_eq_false (by omega)]
   rw[h1,Gf,a36 (y:=y) hn]
   congr 1
   unfold Y8
   by_cases c:x∈frF b L
   . rw[if_pos c,if_pos ⟨c,mem_lessF.mpr ⟨hm.2,hxy.symm⟩⟩]
   rw[if_neg c,if_neg (fun q=>c q.1)]
 have h1:ahN b x y L=0:=by unfold ahN;rw[if_neg hm]
 have h2:Y8 b x y L=0:=by
  unfold Y8
  rw[if_neg (fun q=>hm ⟨(mem_frF.mp q.1).1,(mem_lessF.mp q.2).1⟩)]
 have h3:((frF b L).map fun z=>ahN b x y (Aa L z))=(frF b L).map fun _=>0:=List.map_congr_left fun z _=>by
  unfold ahN
  rw[if_neg (fun q=>hm ⟨(mem_lessF.mp q.1).1,(mem_lessF.mp q.2).1⟩)]
 rw[h1,h2,h3]
 generalize frF b L=l
 induction l with
 | nil=>rfl
 | cons z r ih=>simpa using ih
def knK (ns:List Str)(ps:List (Str×Str))(qs:List (Str->Bool)):List (Key×V):=qs.map fun q=>((Sum.inl ((Ao ns q:Nat):Int):Key),V.int ((cnt (Ae ps) (ns.filter q):Nat):Int))
def B5 (ns:List Str)(qs:List (Str->Bool)):List (List Str):=qs.map fun q=>ns.filter q
theorem Bt (ns:List Str)(a b:List (Str->Bool)):B5 ns (a++b)=B5 ns a++B5 ns b:=List.map_append
theorem Yw {ns:List Str}{ps:List (Str×Str)}{qs:List (Str->Bool)}{q:Str->Bool}{v:V}(h:Cg (knK ns ps qs) (Sum.inl ((Ao ns q:Nat):Int):Key)=some v):ns.filter q∈B5 ns qs:=by
 obtain⟨e,he,h1⟩:=List.mem_map.mp (Kp h)
 refine List.mem_map.mpr ⟨e,he,J0 ?_⟩
 have:=Sum.inl.inj (Prod.mk.inj h1).1
 omega
theorem Zy {ns:List Str}{ps:List (Str×Str)}{qs:List (Str->Bool)}{q:Str->Bool}(h:ns.filter q∉B5 ns qs):Cg (knK ns ps qs) (Sum.inl ((Ao ns q:Nat):Int):Key)=none:=by
 cases e:Cg (knK ns ps qs) (Sum.inl ((Ao ns q:Nat):Int):Key) with
 | none=>rfl
 | some v=>exact absurd (Yw e) h
theorem aa2 {ns:List Str}{ps:List (Str×Str)}{qs:List (Str->Bool)}{q:Str->Bool}(h:ns.filter q∉B5 ns qs):Dv (knK ns ps qs) (Sum.inl ((Ao ns q:Nat):Int)) (.int ((cnt (Ae ps) (ns.filter q):Nat):Int))=knK ns ps (qs++[q]):=by
 rw[Gy _ (Zy h)]
 unfold knK
 rw[List.map_append]
 rfl
theorem Sb (ns:List Str)(ps:List (Str×Str)):([(Sum.inl 0,V.int 1)]:List (Key×V))=knK ns ps [fun _=>false]:=by
 unfold knK
 rw [List.map_cons,List.map_nil,binM_zero.mpr fun _ _=>rfl,List.filter_eq_nil_iff.mpr (by simp)]
 rfl
theorem Qg {ns:List Str}{ps:List (Str×Str)}:∀ {qs:List (Str->Bool)} {q:Str->Bool},ns.filter q∈B5 ns qs->Cg (knK ns ps qs) (Sum.inl ((Ao ns q:Nat):Int):Key)=some (.int ((cnt (Ae ps) (ns.filter q):Nat):Int))
 | [],_,h=>by cases h
 | e :: r,q,h=>by
   show Cg ((Sum.inl ((Ao ns e:Nat):Int),V.int ((cnt (Ae ps) (ns.filter e):Nat):Int)) :: knK ns ps r) _=_
   by_cases c:ns.filter e=ns.filter q
   . rw[Ax (by rw[Lc c]),c]
   have hne:¬ (Sum.inl ((Ao ns e:Nat):Int):Key)=Sum.inl ((Ao ns q:Nat):Int):=fun z=>c (J0 (by have:=Sum.inl.inj z;omega))
   rw[Aw hne]
   rcases List.mem_cons.mp (show ns.filter q∈ns.filter e :: B5 ns r from h) with z | z
   . exact absurd z.symm c
   exact Qg z
theorem Knw.tt {ns:List Str}{ps:List (Str×Str)}{qs:List (Str->Bool)}(h:Knw ns ps (knK ns ps qs)):(B5 ns qs).Nodup:=by
 have h1:=h.1
 unfold knK at h1
 rw[List.map_map] at h1
 unfold B5
 unfold List.Nodup at h1 ⊢
 rw[List.pairwise_map] at h1 ⊢
 exact h1.imp fun {a b} hab z=>hab (by show(Sum.inl ((Ao ns a:Nat):Int):Key)=Sum.inl ((Ao ns b:Nat):Int);rw[Lc z])
def Gr (ns:List Str)(ps:List (Str×Str))(qs qs':List (Str->Bool))(q:Str->Bool):Prop:=∃ new,qs'=qs++new/\Grow (Ae ps) (· = ns.filter q) (B5 ns qs) (B5 ns new)/\(∀ M∈B5 ns new,M.length<=(ns.filter q).length)/\ns.filter q∈B5 ns qs'
def GrC (ns:List Str)(ps:List (Str×Str))(qs qs':List (Str->Bool))(L:List Str)(i:Nat):Prop:=∃ new,qs'=qs++new/\Grow (Ae ps) (fun M=>∃ x∈frF (Ae ps) L,M=Aa L x) (B5 ns qs) (B5 ns new)/\(∀ M∈B5 ns new,M.length<L.length)/\∀ x∈(frF (Ae ps) L).take i,Aa L x∈B5 ns qs'
theorem GrC.zero (ns:List Str)(ps:List (Str×Str))(qs:List (Str->Bool))(L:List Str):GrC ns ps qs qs L 0:=⟨[],by simp,trivial,fun M hM=>(by cases hM),fun x hx=>(by cases hx)⟩
theorem GrC.step {ns:List Str}{ps:List (Str×Str)}{qs qs2 qs3:List (Str->Bool)}{L:List Str}{i:Nat}{z:Str}{q:Str->Bool}(hL:L.Nodup)(h:GrC ns ps qs qs2 L i)(hz:(frF (Ae ps) L)[i]? = some z)(hq:ns.filter q=Aa L z)(g:Gr ns ps qs2 qs3 q):GrC ns ps qs qs3 L (i+1):=by
 obtain⟨n1,rfl,h1,h2,h3⟩:=h
 obtain⟨n2,rfl,g1,g2,g3⟩:=g
 have hzf:=List.mem_of_getElem? hz
 have hzl:=B9 hL (mem_frF.mp hzf).1
 rw[hq] at g1 g2 g3
 refine⟨n1++n2,by rw[List.append_assoc],?_,fun M hM=>?_,fun x hx=>?_⟩
 . rw[Bt]
   rw[Bt] at g1
   exact h1.app (g1.mono fun M hM=>⟨z,hzf,hM⟩)
 . rw[Bt] at hM
   rcases List.mem_append.mp hM with hM | hM
   . exact h2 M hM
   have:=g2 M hM
   omega
 rw[List.take_add_one,hz] at hx
 rcases List.mem_append.mp hx with hx | hx
 . rw[Bt]
   exact List.mem_append_left _ (h3 x hx)
 have:x=z:=by simpa using hx
 rw[this]
 exact g3
theorem GrC.no {ns:List Str}{ps:List (Str×Str)}{qs qs2:List (Str->Bool)}{q:Str->Bool}{i:Nat}(h:GrC ns ps qs qs2 (ns.filter q) i)(hno:ns.filter q∉B5 ns qs):ns.filter q∉B5 ns qs2:=by
 obtain⟨n1,rfl,h1,h2,h3⟩:=h
 intro z
 rw[Bt] at z
 rcases List.mem_append.mp z with z | z
 . exact hno z
 have:=h2 _ z
 omega
theorem GrC.close {ns:List Str}{ps:List (Str×Str)}{qs qs2:List (Str->Bool)}{q:Str->Bool}(h:GrC ns ps qs qs2 (ns.filter q) (frF (Ae ps) (ns.filter q)).length):Gr ns ps qs (qs2++[q]) q:=by
 obtain⟨n1,rfl,h1,h2,h3⟩:=h
 rw[List.take_length] at h3
 refine⟨n1++[q],by rw[List.append_assoc],?_,fun M hM=>?_,?_⟩
 . rw[Bt]
   exact h1.close fun x hx=>by rw[<- Bt];exact h3 x hx
 . rw[Bt] at hM
   rcases List.mem_append.mp hM with hM | hM
   . exact Nat.le_of_lt (h2 M hM)
   have:M=ns.filter q:=by simpa[B5] using hM
   rw[this]
   exact Nat.le_refl _
 rw[Bt]
 exact List.mem_append_right _ (by simp[B5])
structure WaysB (K:PySem.W.Frag)(C:Addr)(H:Hp)(p dx:Addr)(nv:V)(bd ad kd:Addr)(ns:List Str)(ps:List (Str×Str)):Prop where
 ob:H p=some (.ins C dx [("names",nv),("bits",.ref bd),("ahead",.ref ad),("full",.int ((Ao ns (fun _=>true):Nat):Int)),("known",.ref kd)])
 nm:Is K H (nmD ns) nv
 bt:H bd=some (.dK (a54 ns))
 ah:H ad=some (.dK (ahK ns ps))
theorem WaysAt.b {K:PySem.W.Frag}{C:Addr}{H:Hp}{p dx:Addr}{nv:V}{bd ad kd:Addr}{ns:List Str}{ps:List (Str×Str)}{kvs:List (Key×V)}(h:WaysAt K C H p dx nv bd ad kd ns ps kvs):WaysB K C H p dx nv bd ad kd ns ps:=⟨h.ob,h.nm,h.bt,h.ah⟩
theorem WaysB.of {K:PySem.W.Frag}{C:Addr}{H H':Hp}{p dx:Addr}{nv:V}{bd ad kd:Addr}{ns:List Str}{ps:List (Str×Str)}(h:WaysB K C H p dx nv bd ad kd ns ps)(f:Fz H H')(e:∀ b o,b=p\/b=bd\/b=ad->H b=some o->H' b=some o):WaysB K C H' p dx nv bd ad kd ns ps:=⟨e _ _ (.inl rfl) h.ob,h.nm.nm_fz f,e _ _ (.inr (.inl rfl)) h.bt,e _ _ (.inr (.inr rfl)) h.ah⟩
theorem WaysB.same {K:PySem.W.Frag}{C:Addr}{H H':Hp}{p dx:Addr}{nv:V}{bd ad kd:Addr}{ns:List Str}{ps:List (Str×Str)}(h:WaysB K C H p dx nv bd ad kd ns ps)(e:Same H H'):WaysB K C H' p dx nv bd ad kd ns ps:=h.of e.fz fun b o _=>e b o
def ah7 (K:PySem.W.Frag)(a:Addr)(n:Nat):It:=
 ⟨fun i H=>i<n/\∃ xs,SqL K H a xs/\xs.length=n,fun i H v H'=>H'=H/\∀ xs,SqL K H a xs->xs[n-1-i]? = some v,fun i H=>n<=i⟩
theorem Wa {P:Program}{w:World}{K:PySem.W.Frag}{tg:Expr}(a it:Addr)(n:Nat)(hai:a≠it):Wo P w K tg (ah7 K a n) [it] it (fun i h=>i<=n/\h.IsRevIter it a ((n:Int)-1-(i:Int))) where
 mem:=by simp
 obj:=fun i h st b hb=>by
  have q:b=it:=by simpa using hb
  subst q
  obtain⟨_,o,h2,h3,h4⟩:=st
  exact⟨o,h2,fun v z=>by rw[h4] at z;cases z⟩
 keep:=fun i h h' st k=>⟨st.1,st.2.at fun o q=>k it (by simp) o q⟩
 item:=by
  intro X hP hw hK hc i pins s σ H E I hf st hg
  subst hP hw hK
  obtain⟨hin,xs,hq,hxs⟩:=hg
  obtain⟨its,rv,p,hz⟩:=I.list hq
  have hl:=rv.length
  have hn:=Iw
  obtain⟨f0,f1,f2,f3,f4,f5⟩:=hf it (by simp)
  have e:(n:Int)-1-(i:Int)=((n-1-i:Nat):Int):=by omega
  have hit:=st.2
  rw[e] at hit
  obtain⟨x,hx⟩:∃ x,xs[n-1-i]? = some x:=⟨xs[n-1-i]'(by omega),List.getElem?_eq_getElem _⟩
  obtain⟨u,hu,ru⟩:=rv.get hx
  refine wpAny_pyNext_rev_item hit p.isList (x:=u) (by rw[List.getElem?_toArray];exact hu) fun h' hit' hs'=>?_
  have I1:Inv X pins σ H { s with heap:=h' }:=I.turned (t':=s.toks) (fun b o hb e=>hs'.extBut b o (by simpa using hb) e) f0 f1 f3 f4 f5
  obtain⟨o,q1,q2,q3⟩:=id hit'
  have e2:((n-1-i:Nat):Int)-1=(n:Int)-1-((i+1:Nat):Int):=by omega
  rw[e2] at hit'
  refine⟨u,rfl,R3 (s:={ s with heap:=h' }) q1 q2 q3 (by decide +kernel) ⟨x,H,I1,ru,⟨rfl,fun ys hy=>by rw[I.list_inj hy hq];exact hx⟩,⟨hin,hit'⟩,fun b hb=>(hf b hb).1⟩⟩
 done:=by
  intro X hP hw hK hc i pins s σ H E I hf st hg
  subst hP hw hK
  obtain⟨f0,f1,f2,f3,f4,f5⟩:=hf it (by simp)
  have hg':n<=i:=hg
  have hi:i=n:=Nat.le_antisymm st.1 hg'
  subst hi
  have hit:=st.2
  rw[show(i:Int)-1-(i:Int) = -1 by omega] at hit
  refine wpAny_pyNext_rev_end (by simpa using I.ok.hd hc) hit fun h' hk=>⟨rfl,I.turned (t':=s.toks) (fun b o hb e=>hk b o (by simpa using hb) e) f0 f1 f3 f4 f5⟩
 self:=by
  intro A i s Q E st hQ
  exact wpAny_pyIter_revIter st.2 hQ
section
variable {X:Cx}{K:PySem.W.Frag}
def Zg (K:PySem.W.Frag)(vs:List V)(H:Hp)(R:It->Hp->Prop):Prop:=∃ a xs,vs=[.ref a]/\SqL K H a xs/\R (ah7 K a xs.length) H
def ag9 (K:PySem.W.Frag)(ta:TA):TI:=fun σ H R=>ta σ H fun vs H1=>Zg K vs H1 R
theorem a29 {e:Expr}{ta:TA}{p pos:Pos}{tg:Expr}(hg:Gl X "reversed")(hm:X.mg "reversed" = none)(ha:PA X [e] ta)(hK:X.K=K:=by ac_nf)(hs:starEach [e] X.env=[(false,eval e X.env)]:=by ac_nf) :
  PI X tg (.Call (.Name "reversed" p) [e] [] pos) (ag9 K ta):=by
 subst hK
 intro pins s σ H R I h
 refine Call_ (J8 I hg hm boot_reversed (PyProof.Rows.callWith_type1 (thn (ha pos pins s σ H _ I h) fun us s1 ⟨vs,H1,I1,r1,q1⟩=>?_) hs rfl))
 obtain⟨a,xs,rfl,hq,q⟩:=q1
 obtain⟨u,rfl,ru⟩:=Vals.one r1
 cases ru
 obtain⟨its,rv,ht,hz⟩:=I1.list hq
 have hal:a<s1.heap.objs.size:=let ⟨_,q,_⟩:=ht.isList;Heap.lt_size q
 have hl:=rv.length
 have hn:=Iw
 refine call_reversed_list ht.isList ?_
 have hit:(s1.heap.push (revObj a ((its.toArray.size:Int)-1))).IsRevIter s1.heap.objs.size a ((xs.length:Int)-1-((0:Nat):Int)):=⟨_,Heap.get?_push_size _ rfl,rfl,by rw[List.size_toArray,<- hl];simp[revObj]⟩
 refine wpAny_pyIter_revIter hit ?_
 refine⟨s1.heap.objs.size,[s1.heap.objs.size],_,_,H1,rfl,I1.kept (t':=s1.toks) (fun b o e=>Heap.get?_push_of_some _ e),Wa a s1.heap.objs.size xs.length (Nat.ne_of_lt hal),⟨Nat.zero_le _,hit⟩,fun b hb=>?_,q⟩
 have e:b=s1.heap.objs.size:=by simpa using hb
 subst e
 exact I1.fpOk (Nat.le_refl _) (I1.hok.fresh (Nat.le_refl _))
end
section
variable {K:PySem.W.Frag}{σ:St}{H:Hp}
theorem a44 {ts:TA}{R:It->Hp->Prop}(k:ts σ H fun vs H1=>Zg K vs H1 R):ag9 K ts σ H R:=k
theorem Sl {a:Addr}{xs:List V}:Fe (ah7 K a xs.length) xs.reverse fun H=>SqL K H a xs:=by
 intro i H g
 rw[List.length_reverse]
 refine⟨fun h=>⟨h,xs,g,rfl⟩,fun h=>h,fun x H' hi h=>?_⟩
 obtain⟨e,h2⟩:=h
 refine⟨e,?_⟩
 rw[List.getElem?_reverse hi]
 exact h2 xs g
theorem ah3 {a:Addr}{xs:List V}{R:It->Hp->Prop}(h:SqL K H a xs)(k:R (ah7 K a xs.length) H):Zg K [.ref a] H R:=⟨a,xs,rfl,h,k⟩
end
theorem Wl {α:Type}{xs:List α}{i:Nat}{M:α}(h:xs.reverse[i]? = some M):∃ A,xs=A++M :: (xs.reverse.take i).reverse:=by
 obtain⟨hi,hM⟩:=List.getElem?_eq_some_iff.mp h
 refine⟨(xs.reverse.drop (i+1)).reverse,?_⟩
 have h1:xs.reverse=xs.reverse.take i++M :: xs.reverse.drop (i+1):=by
  conv=>lhs;rw[<- List.take_append_drop i xs.reverse,List.drop_eq_getElem_cons hi,hM]
 have h2:=congrArg List.reverse h1
 rw[List.reverse_reverse,List.reverse_append,List.reverse_cons,List.append_assoc] at h2
 exact h2
theorem Xg {α:Type}{xs:List α}{i:Nat}{M:α}(h:xs[i]? = some M):(xs.take (i+1)).reverse=M :: (xs.take i).reverse:=by
 rw[List.take_add_one,h]
 simp
theorem Zb (b:Str->Str->Bool):frF b ([]:List Str)=[]:=rfl
theorem aa3 {ns:List Str}{ps:List (Str×Str)}{qs:List (Str->Bool)}{A D:List (List Str)}{M:List Str}(h:Gr ns ps [fun _=>false] qs (fun _=>true))(e:B5 ns qs=A++M :: D) :
  frF (Ae ps) M=[]\/((∀ x∈frF (Ae ps) M,Aa M x∈A)/\(M=ns\/∃ N∈D,∃ x∈frF (Ae ps) N,M=Aa N x)):=by
 obtain⟨new,rfl,h1,h2,h3⟩:=h
 have h0:B5 ns [fun _=>false]=[[]]:=by unfold B5;simp
 rw[Bt,h0] at e
 rw[h0] at h1
 cases A with
 | nil=>
   left
   have:([]:List Str)=M:=(List.cons.inj e).1
   rw[<- this]
   exact Zb _
 | cons B A=>
   right
   obtain⟨e1,e2⟩:=List.cons.inj e
   subst e1
   have e2:B5 ns new=A++M :: D:=e2
   rw[e2] at h1
   obtain⟨g1,g2⟩:=h1.at
   refine⟨fun x hx=>by simpa using g1 x hx,?_⟩
   rcases g2 with g2 | g2
   . left
     rw[g2]
     simp
   exact .inr g2
structure CmI (ns:List Str)(ps:List (Str×Str))(T D:List (List Str))(ct:List ((Str->Bool)×Nat)):Prop where
 k1:∀ L∈Eo ns ct,L∈T
 k2:ns∈Eo ns ct
 k3:∀ M∈D,∀ x∈frF (Ae ps) M,Aa M x∈Eo ns ct
 sm:∀ W loc,Rec (Ae ps) W loc->Er ns (Gm D W loc) ct=W ns
theorem CmI.start {ns:List Str}{ps:List (Str×Str)}{T:List (List Str)}(h:ns∈T):CmI ns ps T [] [(fun _=>true,1)]:=by
 have h0:ns.filter (fun _=>true)=ns:=by simp
 refine⟨fun L hL=>?_,?_,fun M hM=>(by cases hM),fun W loc _=>?_⟩
 . have:L=ns:=by simpa[Eo,h0] using hL
   rw[this]
   exact h
 . rw[show Eo ns [((fun _=>true:Str->Bool),1)]=[ns.filter fun _=>true] from rfl,h0]
   exact List.mem_cons_self ..
 rw[Bi]
 show 1*Gm [] W loc (ns.filter fun _=>true)+0=_
 rw[h0]
 unfold Gm
 rw[if_neg (by simp)]
 omega
structure CmJ (ns:List Str)(ps:List (Str×Str))(M:List Str)(m:Nat)(ct1 ct2:List ((Str->Bool)×Nat)):Prop where
 ks:∀ L,L∈Eo ns ct2↔L∈Eo ns ct1\/∃ x∈(frF (Ae ps) M).take m,L=Aa M x
 sm:∀ F,Er ns F ct2=Er ns F ct1+Er ns (ind M) ct1*(((frF (Ae ps) M).take m).map fun x=>F (Aa M x)).sum
theorem CmJ.zero (ns:List Str)(ps:List (Str×Str))(M:List Str)(ct:List ((Str->Bool)×Nat)):CmJ ns ps M 0 ct ct:=⟨fun L=>by simp,fun F=>by simp⟩
theorem a51 {L:List Str}{x:Str}(h:x∈L):Aa L x≠L:=fun z=>by
 rw[<- z] at h
 exact(mem_lessF.mp h).2 rfl
theorem CmJ.same {ns:List Str}{ps:List (Str×Str)}{M:List Str}{m:Nat}{ct1 ct2:List ((Str->Bool)×Nat)}(h:CmJ ns ps M m ct1 ct2):Er ns (ind M) ct2=Er ns (ind M) ct1:=by
 rw[h.sm]
 have:((frF (Ae ps) M).take m).map (fun x=>ind M (Aa M x))=((frF (Ae ps) M).take m).map fun _=>0:=List.map_congr_left fun x hx=>by
  unfold ind
  rw[if_neg (a51 (mem_frF.mp ((List.take_sublist _ _).subset hx)).1)]
 rw[this]
 generalize (frF (Ae ps) M).take m=l
 have:(l.map fun _=>0).sum=0:=by
  induction l with
  | nil=>rfl
  | cons z r ih=>simpa using ih
 rw[this]
 omega
theorem CmJ.step {ns:List Str}{ps:List (Str×Str)}{M:List Str}{m:Nat}{ct1 ct2 ct3:List ((Str->Bool)×Nat)}{z:Str}{q:Str->Bool}(h:CmJ ns ps M m ct1 ct2)(hz:(frF (Ae ps) M)[m]? = some z)(hq:ns.filter q=Aa M z)
  (g3:∀ k,k∈(Fg ns ct3).map (·.1)↔k∈(Fg ns ct2).map (·.1)\/k=Sum.inl ((Ao ns q:Nat):Int)) (g5:∀ F,Er ns F ct3=Er ns F ct2+Er ns (ind M) ct2*F (ns.filter q)):CmJ ns ps M (m+1) ct1 ct3:=by
 refine⟨fun L=>?_,fun F=>?_⟩
 . have key:L∈Eo ns ct3↔L∈Eo ns ct2\/L=Aa M z:=by
    constructor
    . intro hL
      obtain⟨e,he,rfl⟩:=List.mem_map.mp hL
      rcases(g3 _).mp (com_keys.mpr hL) with g | g
      . exact .inl (com_keys.mp g)
      right
      rw[<- hq]
      exact J0 (by have:=Sum.inl.inj g;omega)
    rintro(hL | rfl)
    . obtain⟨e,he,rfl⟩:=List.mem_map.mp hL
      exact com_keys.mp ((g3 _).mpr (.inl (com_keys.mpr hL)))
    rw[<- hq]
    exact com_keys.mp ((g3 _).mpr (.inr rfl))
   rw[key,h.ks,List.take_add_one,hz]
   constructor
   . rintro((a | ⟨x,hx,e⟩) | e)
     . exact .inl a
     . exact .inr ⟨x,List.mem_append_left _ hx,e⟩
     exact .inr ⟨z,by simp,e⟩
   rintro(a | ⟨x,hx,e⟩)
   . exact .inl (.inl a)
   rcases List.mem_append.mp hx with hx | hx
   . exact .inl (.inr ⟨x,hx,e⟩)
   have:x=z:=by simpa using hx
   exact .inr (this ▸ e)
 rw[g5,h.same,h.sm,hq,List.take_add_one,hz,List.map_append,List.sum_append,Nat.mul_add]
 simp
 omega
theorem CmI.step {ns:List Str}{ps:List (Str×Str)}{T A D:List (List Str)}{M:List Str}{ct1 ct2:List ((Str->Bool)×Nat)}(h:CmI ns ps T D ct1)(hT:T=A++M :: D)(hn:T.Nodup)(hM:M.Nodup)(hat:∀ x∈frF (Ae ps) M,Aa M x∈A)(g:CmJ ns ps M (frF (Ae ps) M).length ct1 ct2):CmI ns ps T (M :: D) ct2:=by
 have g1:=g.ks
 have g2:=g.sm
 rw[List.take_length] at g1 g2
 rw[hT] at hn
 obtain⟨n1,n2,n3⟩:=List.nodup_append.mp hn
 refine⟨fun L hL=>?_,(g1 _).mpr (.inl h.k2),fun N hN x hx=>?_,fun W loc hR=>?_⟩
 . rcases(g1 L).mp hL with q | ⟨x,hx,rfl⟩
   . exact h.k1 L q
   rw[hT]
   exact List.mem_append_left _ (hat x hx)
 . rcases List.mem_cons.mp hN with rfl | hN
   . exact(g1 _).mpr (.inr ⟨x,hx,rfl⟩)
   exact(g1 _).mpr (.inl (h.k3 N hN x hx))
 exact tele hR hM (List.nodup_cons.mp n2).1 (fun x hx z=>n3 _ (hat x hx) _ z rfl) (h.sm W loc hR) g2
def wof (b:Str->Str->Bool)(loc:List Str->Nat):Nat->List Str->Nat
 | 0,L=>loc L
 | n+1,L=>loc L+((frF b L).map fun x=>wof b loc n (Aa L x)).sum
theorem Zk {b:Str->Str->Bool}(loc:List Str->Nat):Rec b (fun L=>wof b loc L.length L) loc:=fun L hn=>by
 show wof b loc L.length L=_
 cases hl:L.length with
 | zero=>
   have:L=[]:=List.length_eq_zero_iff.mp hl
   subst this
   rfl
 | succ n=>
   show loc L+_=loc L+_
   congr 2
   refine List.map_congr_left fun x hx=>?_
   have:=B9 hn (mem_frF.mp hx).1
   show _=wof b loc (Aa L x).length (Aa L x)
   rw[show(Aa L x).length=n by omega]
theorem G2 {α:Type}{f:α->Nat}{c:Nat}:∀ {l:List α},(∀ x∈l,f x<=c)->(l.map f).sum<=l.length*c
 | [],_=>by simp
 | x :: r,h=>by
   have h1:=h x (List.mem_cons_self ..)
   have h2:=G2 (l:=r) fun y hy=>h y (List.mem_cons_of_mem _ hy)
   rw[List.map_cons,List.sum_cons,List.length_cons,Nat.add_mul]
   omega
theorem Jq {α:Type}{f:α->Nat}:∀ {l:List α},(∀ x∈l,f x=0)->(l.map f).sum=0
 | [],_=>rfl
 | x :: r,h=>by
   rw[List.map_cons,List.sum_cons,h x (List.mem_cons_self ..),Jq (l:=r) fun y hy=>h y (List.mem_cons_of_mem _ hy)]
theorem Yb {b:Str->Str->Bool}{L0:List Str}:∀(n:Nat) (L:List Str),L.Nodup->L.length=n->wof b (ind L0) n L<=fac n/\(n<L0.length->wof b (ind L0) n L=0)
 | 0,L,_,hl=>by
   have:L=[]:=List.length_eq_zero_iff.mp hl
   subst this
   refine⟨?_,fun h=>?_⟩
   . show ind L0 []<=1
     unfold ind
     split<;>omega
   show ind L0 []=0
   unfold ind
   rw[if_neg (fun z:([]:List Str)=L0=>by rw[<- z] at h;cases h)]
 | n+1,L,hn,hl=>by
   have sub:∀ x∈frF b L,wof b (ind L0) n (Aa L x)<=fac n/\(n<L0.length->wof b (ind L0) n (Aa L x)=0):=fun x hx=>
    Yb n (Aa L x) (Be hn x) (by have:=B9 hn (mem_frF.mp hx).1;omega)
   have hfl:(frF b L).length<=n+1:=hl ▸ List.length_filter_le _ _
   refine⟨?_,fun h=>?_⟩
   . show ind L0 L+((frF b L).map fun x=>wof b (ind L0) n (Aa L x)).sum<=fac (n+1)
     rw[show fac (n+1)=(n+1)*fac n by simp[fac,Nat.mul_comm]]
     by_cases c:L=L0
     . have hz:((frF b L).map fun x=>wof b (ind L0) n (Aa L x)).sum=0:=Jq fun x hx=>(sub x hx).2 (by rw[<- c,hl];omega)
       rw[hz]
       have:1<=fac n:=by
        clear hz sub hfl hl c
        induction n with
        | zero=>exact Nat.le_refl _
        | succ n ih=>rw[show fac (n+1)=(n+1)*fac n by simp[fac,Nat.mul_comm]];exact Nat.le_trans ih (Nat.le_mul_of_pos_left _ (by omega))
       unfold ind
       rw[if_pos c]
       have:=Nat.le_mul_of_pos_left (fac n) (show 0<n+1 by omega)
       omega
     have h1:=G2 fun x hx=>(sub x hx).1
     have h2:=Nat.mul_le_mul_right (fac n) hfl
     unfold ind at h1 ⊢
     rw[if_neg c]
     omega
   show ind L0 L+_=0
   rw[Jq fun x hx=>(sub x hx).2 (by omega)]
   unfold ind
   rw[if_neg (fun z=>by rw[<- z] at h;omega)]
theorem CmI.sum {ns:List Str}{ps:List (Str×Str)}{T:List (List Str)}{ct:List ((Str->Bool)×Nat)}(h:CmI ns ps T T ct){W loc:List Str->Nat}(hR:Rec (Ae ps) W loc):Er ns loc ct=W ns:=by
 rw[<- h.sm W loc hR]
 refine Rc fun e he=>?_
 unfold Gm
 rw[if_pos (h.k1 _ (List.mem_map.mpr ⟨e,he,rfl⟩))]
theorem CmI.le {ns:List Str}{ps:List (Str×Str)}{T:List (List Str)}{ct:List ((Str->Bool)×Nat)}(h:CmI ns ps T T ct)(hn:ns.Nodup)(h10:ns.length<=10)(L:List Str):Er ns (ind L) ct<=3628800:=by
 rw[h.sum (Zk (ind L))]
 exact Nat.le_trans (Yb _ ns hn rfl).1 (Nat.le_trans (Qp h10) (by decide))
theorem CmI.share {ns:List Str}{ps:List (Str×Str)}{T:List (List Str)}{ct:List ((Str->Bool)×Nat)}(h:CmI ns ps T T ct)(hn:T.Nodup)(hW:HalfW ns ps){x y:Str}(hx:x∈ns)(hy:y∈ns)(hxy:x≠y) :
  (T.map fun L=>Er ns (ind L) ct*Y8 (Ae ps) x y L).sum=cnt (Ae (ps++[(x,y)])) ns:=by
 rw[Qa hn h.k1,h.sum (a98 hxy),G5 hW hx hy]
 unfold ahN
 rw[if_pos ⟨hx,hy⟩]
def Nu (ns:List Str)(g:Str->Nat):List (Key×V):=ns.map fun y=>((Sum.inr y:Key),V.int ((g y:Nat):Int))
structure TabN (H:Hp)(r:Addr)(ns:List Str)(as:List Addr)(f:Str->Str->Nat):Prop where
 len:as.length=ns.length
 nd:as.Nodup
 no:r∉as
 top:H r=some (.dK (Lk ns as))
 row:∀(j:Nat) x a,ns[j]? = some x->as[j]? = some a->H a=some (.dK (Nu ns (f x)))
theorem TabN.of {H H':Hp}{r:Addr}{ns:List Str}{as:List Addr}{f:Str->Str->Nat}(h:TabN H r ns as f)(e:∀ b o,b=r\/b∈as->H b=some o->H' b=some o):TabN H' r ns as f:=
 ⟨h.len,h.nd,h.no,e _ _ (.inl rfl) h.top,fun j x a hj ha=>e _ _ (.inr (List.mem_of_getElem? ha)) (h.row j x a hj ha)⟩
theorem TabN.same {H H':Hp}{r:Addr}{ns:List Str}{as:List Addr}{f:Str->Str->Nat}(h:TabN H r ns as f)(e:Same H H'):TabN H' r ns as f:=h.of fun b o _=>e b o
theorem TabN.at {H:Hp}{r:Addr}{ns:List Str}{as:List Addr}{f:Str->Str->Nat}(h:TabN H r ns as f){x:Str}(hx:x∈ns):∃(j:Nat) (a:Addr),ns[j]? = some x/\as[j]? = some a:=by
 obtain⟨j,hj⟩:=List.mem_iff_getElem?.mp hx
 have hl:=(List.getElem?_eq_some_iff.mp hj).1
 exact⟨j,as[j]'(by rw[h.len];exact hl),hj,List.getElem?_eq_getElem _⟩
theorem X2 {ns:List Str}(hn:ns.Nodup){g:Str->Nat}{z:Str}(hz:z∈ns){m:Nat}:Dv (Nu ns g) (Sum.inr z:Key) (.int ((m:Nat):Int))=Nu ns fun y=>if y=z then m else g y:=by
 unfold Dv
 have hany:((Nu ns g).any fun kv=>decide (kv.1=(Sum.inr z:Key)))=true:=by
  rw[List.any_eq_true]
  exact⟨_,List.mem_map.mpr ⟨z,hz,rfl⟩,by simp⟩
 rw[if_pos hany]
 unfold Nu
 rw[List.map_map]
 refine List.map_congr_left fun y _=>?_
 by_cases c:y=z
 . subst c
   simp
 have:(Sum.inr y:Key)≠Sum.inr z:=fun q=>c (by injection q)
 simp[c,this]
theorem TabN.put {H H':Hp}{r a:Addr}{ns:List Str}{as:List Addr}{f:Str->Str->Nat}(h:TabN H r ns as f)(hn:ns.Nodup){j:Nat}{x z:Str}{m:Nat}(hj:ns[j]? = some x)(ha:as[j]? = some a)(hz:z∈ns)(e:ExtBut a H H')(h':H' a=some (.dK (Dv (Nu ns (f x)) (Sum.inr z:Key) (.int ((m:Nat):Int))))) :
  TabN H' r ns as fun x' y=>if x'=x/\y=z then m else f x' y:=by
 have ham:=List.mem_of_getElem? ha
 refine⟨h.len,h.nd,h.no,e _ _ (fun q=>h.no (q ▸ ham)) h.top,fun i x' a' hi ha'=>?_⟩
 by_cases c:i=j
 . subst c
   rw[hj] at hi
   cases hi
   rw[ha] at ha'
   cases ha'
   rw[h',X2 hn hz]
   congr 2
   exact List.map_congr_left fun y _=>by by_cases q:y=z<;>simp[q]
 have hne:a'≠a:=fun q=>by
  subst q
  obtain⟨l1,e1⟩:=List.getElem?_eq_some_iff.mp ha
  obtain⟨l2,e2⟩:=List.getElem?_eq_some_iff.mp ha'
  exact c ((List.getElem_inj h.nd).mp (e2.trans e1.symm))
 have hx:x'≠x:=fun q=>by
  subst q
  obtain⟨l1,e1⟩:=List.getElem?_eq_some_iff.mp hj
  obtain⟨l2,e2⟩:=List.getElem?_eq_some_iff.mp hi
  exact c ((List.getElem_inj hn).mp (e2.trans e1.symm))
 rw[e _ _ hne (h.row i x' a' hi ha')]
 congr 2
 exact List.map_congr_left fun y _=>by simp[hx]
theorem W4 {ns:List Str}(hn:ns.Nodup)(g:Str->Nat):((Nu ns g).map (·.1)).Nodup:=by
 unfold Nu
 rw[List.map_map]
 exact List.Pairwise.map _ (fun a b h z=>h (by injection z)) hn
section
variable {K:PySem.W.Frag}{H H':Hp}{x:V}{ns:List Str}{σ:St}{Q:VK}
def NmS (K:PySem.W.Frag)(H:Hp)(x:V)(ns:List Str):Prop:=∃ a,x = .ref a/\(SqL K H a (ns.map V.str)\/SqT K H a (ns.map V.str))
theorem NmS.same (h:NmS K H x ns)(e:Same H H'):NmS K H' x ns:=by
 obtain⟨a,rfl,h⟩:=h
 exact⟨a,rfl,h.imp e.seq e.seqT⟩
theorem NmS.of (h:Is K H (nmD ns) x):NmS K H x ns:=by
 obtain⟨a,rfl,g⟩:=h.nm
 exact⟨a,rfl,.inr g⟩
theorem Vb (h:NmS K H x ns)(k:Q (.int ns.length) H):Ro K [x] H Q:=by
 obtain⟨a,rfl,h | h⟩:=h
 . exact .inl ⟨.ref a,_,rfl,.inl ⟨_,h,rfl⟩,by rw[List.length_map];exact k⟩
 exact ae0 (Mq h) k
theorem Xt {i:Int}{z:Str}(h:NmS K H x ns)(e:atI ns i=some z)(k:Q (.str z) H):Jx K x (.int i) H Q:=by
 obtain⟨a,rfl,h | h⟩:=h
 . refine ah6 h ?_ k
   unfold atI at e ⊢
   rw[List.length_map]
   cases c:ixN ns.length i with
   | none=>rw[c] at e;cases e
   | some j=>
     rw[c] at e
     show(ns.map V.str)[j]? = _
     rw[List.getElem?_map,show ns[j]? = some z from e]
     rfl
 exact ak1 (Mq h) e k
theorem X8 {g:TG}{tt:TT}{te:TE}{k:Nat}{js:List Nat}(h:NmS K H x ns)(t:Str->Bool)(f:Str->PyData)(hf:∀ a,frz (f a)=true)(hz:ns.length<=1000000)
  (hs:∀(i:Nat) a H1 (R:VK) (R':Hp->Prop),ns[i]? = some a->Same H H1->(t a=true->∀ y H2,Same H1 H2->Is K H2 (f a) y->R y H2)->(t a=false->∀ H2,Same H1 H2->R' H2) ->
   g (.str a) (List.replicate k none++L6 σ js) H1 fun σ2 H2=>tt σ2 H2 fun b H3=>if b=true then te σ2 H3 R else R' H3)
  (hd:∀ p ys H',H p=none->Same H H'->H' p=some (.lst ys)->IsL K H' ((ns.filter t).map f) ys->Q (.ref p) H'):Du K x H fun J H1=>Kt k js g tt te σ J H1 Q:=by
 obtain⟨a,rfl,h | h⟩:=h
 . exact Ik h t f hf hz hs hd
 exact L9 (Mq h) t f hf hz hs hd
def NmX (K:PySem.W.Frag)(H:Hp)(q:Addr)(x:V)(ns:List Str):Prop:=∃ p,x = .ref p/\((p≠q/\H p=some (.lst (ns.map V.str)))\/SqT K H p (ns.map V.str))
theorem a77 {q:Addr}{o:HO}{t:Int}(hq:H q=some o)(h:NmS K H x ns)(h0:0<=t)(h1:t<=ns.length)(k:∀ y H',Same H H'->NmX K H' q y (ns.drop t.toNat)->Q y H'):a57 K x (some t) none H Q:=by
 have hc:K8 (ns.map V.str) (some t) none=(ns.drop t.toNat).map V.str:=by rw[G0 h0 (by rw[List.length_map];exact h1),List.map_drop]
 obtain⟨a,rfl,h | h⟩:=h
 . exact Gj h fun p H' hp e g=>k _ _ e ⟨p,rfl,.inl ⟨(ne_of_none hq hp).symm,by rw[<- hc];exact g⟩⟩
 exact aj8 h fun p H' e g=>k _ _ e ⟨p,rfl,.inr (by rw[<- hc];exact g)⟩
theorem a38 {q:Addr}{g:TG}{tb:TS}{D:Ka}(h:NmX K H q x ns)(Pv:Nat->St->Hp->Prop)(h0:Pv 0 σ H)(hG:∀ i σ' H',Pv i σ' H'->ExtBut q H H'/\Fz H H')
  (hs:∀ i z σ' H',ns[i]? = some z->Pv i σ' H'->g (.str z) σ' H' fun σ2 H2=>tb { D with nx:=Pv (i+1),ct:=Pv (i+1),bk:=D.nx } σ2 H2) (hd:∀ σ' H',Pv ns.length σ' H'->D.nx σ' H') :
  Du K x H fun J H1=>Zf g tb D σ J H1:=by
 obtain⟨a,rfl,⟨hne,h⟩ | h⟩:=h
 . refine G9 (SqL.of h) (Ck Av Pv h0 (fun i σ' H' p=>SqL.of ((hG i σ' H' p).1 _ _ hne h)) (fun i v σ' H' hx hi p=>?_) fun σ' H' p=>hd σ' H' (by rw[List.length_map] at p;exact p))
   rw[List.getElem?_map] at hx
   cases hn:ns[i]? with
   | none=>rw[hn] at hx;cases hx
   | some z=>
     rw[hn] at hx
     cases hx
     exact hs i z σ' H' hn p
 exact Kj (Mq h) Pv h0 (fun i σ' H' p=>(hG i σ' H' p).2) hs hd
def HfS (K:PySem.W.Frag)(H:Hp)(x:V)(ns:List Str)(ps:List (Str×Str)):Prop:=∃ a nv pv,x = .ref a/\SqT K H a [nv,pv]/\NmS K H nv ns/\Is K H (psD ps) pv
theorem HfS.same {ps:List (Str×Str)}(h:HfS K H x ns ps)(e:Same H H'):HfS K H' x ns ps:=by
 obtain⟨a,nv,pv,rfl,h1,h2,h3⟩:=h
 exact⟨a,nv,pv,rfl,e.seqT h1,h2.same e,Is.mono e _ _ h3⟩
theorem HfS.of {ps:List (Str×Str)}(h:Is K H (hfD ns ps) x):HfS K H x ns ps:=by
 obtain⟨a,xs,rfl,h1,h2⟩:=Is.tup h
 obtain ⟨v1,q1,q2⟩:=h2.at (i:=0) rfl
 obtain⟨v2,q3,q4⟩:=h2.at (i:=1) rfl
 have q5:=h2.length
 match xs,q1,q3,q5 with
 | [y1,y2],q1,q3,_=>
   cases q1
   cases q3
   exact⟨a,v1,v2,rfl,h1,.of q2,q4⟩
theorem Yi {ps:List (Str×Str)}(h:HfS K H x ns ps)(k:∀ v,NmS K H v ns->Q v H):Jx K x (.int 0) H Q:=by
 obtain⟨a,nv,pv,rfl,h1,h2,h3⟩:=h
 exact .inl (.inr (.inl ⟨a,_,_,_,rfl,rfl,h1,Bj (j:=0) rfl,k _ h2⟩))
theorem ag7 {ps:List (Str×Str)}(h:HfS K H x ns ps)(k:∀ v,Is K H (psD ps) v->Q v H):Jx K x (.int 1) H Q:=by
 obtain ⟨a,nv,pv,rfl,h1,h2,h3⟩:=h
 exact .inl (.inr (.inl ⟨a,_,_,_,rfl,rfl,h1,Bj (j:=1) rfl,k _ h3⟩))
end
theorem Wn {ns:List Str}{ps:List (Str×Str)}:∀(i:Nat) (row:List Str),row∈Dh (Ae ps) ns i [[]]->∀ y∈Dc ns row,∀ z∈ns,Ae ps y z=true->z∈Dc ns row
 | 0,row,h,y,hy,z,hz,g=>by
   have:row=[]:=by simpa[Dh] using h
   subst this
   exact List.mem_filter.mpr ⟨hz,by simp⟩
 | i+1,row,h,y,hy,z,hz,g=>by
   rw[Em] at h
   obtain⟨r,hr,h⟩:=List.mem_flatMap.mp h
   obtain⟨w,hw,rfl⟩:=List.mem_map.mp h
   obtain⟨y1,y2⟩:=List.mem_filter.mp hy
   have y3:y∉r++[w]:=by simpa using y2
   rw[List.mem_append,not_or] at y3
   have hyl:y∈Dc ns r:=List.mem_filter.mpr ⟨y1,by simpa using y3.1⟩
   have hzl:=Wn i r hr y hyl z hz g
   refine List.mem_filter.mpr ⟨hz,?_⟩
   have hzr:z∉r:=by simpa using (List.mem_filter.mp hzl).2
   have hzw:z≠w:=fun q=>by
    subst q
    rw[(mem_frF.mp hw).2 y hyl] at g
    cases g
   simp[hzr,hzw]
theorem X1 {ns:List Str}{ps:List (Str×Str)}(hm:∀ p∈ps,p.1∈ns/\p.2∈ns){i:Nat}{row:List Str}(h:row∈Dh (Ae ps) ns i [[]]) :
  ((Dc ns row).filter fun z=>!decide (z∈(ps.filter fun p=>decide (p.1∈Dc ns row)).map (·.2)))=frF (Ae ps) (Dc ns row):=by
 unfold frF
 refine List.filter_congr fun z hz=>?_
 congr 1
 rw[Bool.eq_iff_iff,decide_eq_true_iff,List.any_eq_true]
 constructor
 . intro q
   obtain⟨p,hp,rfl⟩:=List.mem_map.mp q
   obtain⟨p1,p2⟩:=List.mem_filter.mp hp
   exact⟨p.1,of_decide_eq_true p2,wayB_iff.mpr (.one p1)⟩
 rintro⟨y,hy,g⟩
 obtain⟨m,hm1,hm2⟩:=Way.last (wayB_iff.mp g)
 refine List.mem_map.mpr ⟨(m,z),List.mem_filter.mpr ⟨hm1,decide_eq_true ?_⟩,rfl⟩
 rcases hm2 with rfl | hm2
 . exact hy
 exact Wn i row h y hy m (hm _ hm1).1 (wayB_iff.mpr hm2)
theorem Hw {ns:List Str}{ps:List (Str×Str)}(h:HalfW ns ps){x y:Str}(hx:x∈ns)(hy:y∈ns)(hxy:x≠y):cnt (Ae (ps++[(x,y)])) ns=0↔Ae ps y x=true:=by
 constructor
 . intro g
   cases c:Ae ps y x with
   | true=>rfl
   | false=>
     have c':¬ Way ps y x:=fun q=>by rw[wayB_iff.mpr q] at c;cases c
     have hirr:=Sw h.irr (p:=(x,y)) (fun q=>hxy q.symm) c'
     have:=Lr (b:=Ae (ps++[(x,y)])) (fun z=>Hk (hirr z)) Oe ns.length ns rfl h.nd
     omega
 intro g
 rw[G5 h hx hy]
 refine Hs fun r hr=>?_
 refine decide_eq_false fun q=>?_
 obtain⟨hp,ho⟩:=(Ea _ _ _ _ h.nd rfl).mp hr
 have h1:okR (Ae (ps++[(x,y)])) r:=by
  rw[Mj h.nd (h.more hx hy).mem hp]
  intro p hpp
  rcases List.mem_append.mp hpp with hpp | hpp
  . exact(Mj h.nd h.mem hp).mp ho p hpp
  have:p=(x,y):=by simpa using hpp
  rw[this]
  exact q
 have h2:r∈ext (Ae (ps++[(x,y)])) ns.length ns:=(Ea _ _ _ _ h.nd rfl).mpr ⟨hp,h1⟩
 have h3:=(Mj h.nd h.mem hp).mp ho
 have hlt:∀ a b,Way ps a b->r.idxOf a<r.idxOf b:=fun a b g=>by
  induction g with
  | one e=>exact h3 _ e
  | cons e _ ih=>exact Nat.lt_trans (h3 _ e) ih
 have:=hlt y x (wayB_iff.mp g)
 omega
def qsD (p:Str×Str)(m n:Nat):PyData:=.tuple [prD p,.tuple [.int ((m:Nat):Int),.int ((n:Nat):Int)]]
theorem J2 (p:Str×Str)(m n:Nat):frz (qsD p m n)=true:=by simp[qsD,frz,Jl,Hd]
def quR (ns:List Str)(A:Str->Str->Nat)(i m:Nat):List PyData:=(((ns.drop (i+1)).take m).filter fun y=>decide (A (ns.getD i "") y≠0/\A y (ns.getD i "")≠0)).map fun y=>qsD (ns.getD i "",y) (A (ns.getD i "") y) (A y (ns.getD i ""))
def quK (ns:List Str)(A:Str->Str->Nat)(k:Nat):List PyData:=(List.range k).flatMap fun i=>quR ns A i ns.length
def quP (ns:List Str)(ps:List (Str×Str)):List PyData:=(unP ns ps).map fun p=>qsD p (cnt (Ae (ps++[(p.1,p.2)])) ns) (cnt (Ae (ps++[(p.2,p.1)])) ns)
theorem al3 {ns:List Str}{ps:List (Str×Str)}(h:HalfW ns ps){A:Str->Str->Nat}(hA:∀ x∈ns,∀ y∈ns,x≠y->(A x y≠0/\A y x≠0↔unB ps x y=true)/\(unB ps x y=true->A x y=cnt (Ae (ps++[(x,y)])) ns)):quK ns A ns.length=quP ns ps:=by
 unfold quP unP unK quK
 rw[List.map_flatMap]
 rw[List.flatMap_def,List.flatMap_def]
 congr 1
 refine List.map_congr_left fun i hi=>?_
 have hi:i<ns.length:=List.mem_range.mp hi
 have hx:ns.getD i "" = ns[i]:=by simp[List.getD,List.getElem?_eq_getElem hi]
 have hxm:ns[i]∈ns:=List.getElem_mem hi
 unfold quR unR
 rw[List.map_map,hx,List.take_of_length_le (by rw[List.length_drop];omega)]
 have hne:∀ y∈ns.drop (i+1),y∈ns/\ns[i]≠y:=fun y hy=>by
  refine⟨(List.drop_sublist _ _).subset hy,fun q=>?_⟩
  obtain⟨j,hj⟩:=List.mem_iff_getElem?.mp hy
  rw[List.getElem?_drop] at hj
  obtain⟨h1,h2⟩:=List.getElem?_eq_some_iff.mp hj
  have:=(List.getElem_inj h.nd).mp (h2.trans q.symm)
  omega
 have hf:((ns.drop (i+1)).filter fun y=>decide (A ns[i] y≠0/\A y ns[i]≠0))=(ns.drop (i+1)).filter fun y=>unB ps ns[i] y:=List.filter_congr fun y hy=>by
  obtain⟨h1,h2⟩:=hne y hy
  rw[Bool.eq_iff_iff,decide_eq_true_iff]
  exact(hA _ hxm y h1 h2).1
 rw[hf]
 refine List.map_congr_left fun y hy=>?_
 obtain⟨y1,y2⟩:=List.mem_filter.mp hy
 obtain⟨h1,h2⟩:=hne y y1
 have hs:unB ps y ns[i]=true:=by
  have:=y2
  unfold unB at this ⊢
  rw[Bool.and_comm]
  exact this
 show qsD (ns[i],y) _ _=qsD (ns[i],y) _ _
 rw[(hA _ hxm y h1 h2).2 y2,(hA y h1 _ hxm h2.symm).2 hs]
theorem Sx {ns:List Str}{ps:List (Str×Str)}(h:HalfW ns ps){x y:Str}(hx:x∈ns)(hy:y∈ns)(hxy:x≠y):(cnt (Ae (ps++[(x,y)])) ns≠0/\cnt (Ae (ps++[(y,x)])) ns≠0)↔unB ps x y=true:=by
 rw[Ne,Ne,Hw h hx hy hxy,Hw h hy hx hxy.symm]
 unfold unB
 cases Ae ps x y<;>cases Ae ps y x<;>simp
theorem W1 {ns:List Str}{ps:List (Str×Str)}(h:HalfW ns ps):quK ns (fun x y=>((ext (Ae ps) ns.length ns).filter fun r=>decide (r.idxOf x<r.idxOf y)).length) ns.length=quP ns ps:=by
 refine al3 h fun x hx y hy hxy=>?_
 rw[<- G5 h hx hy,<- G5 h hy hx]
 exact⟨Sx h hx hy hxy,fun _=>rfl⟩
theorem L1 (ns:List Str)(A:Str->Str->Nat)(k:Nat):quK ns A (k+1)=quK ns A k++quR ns A k ns.length:=by
 unfold quK
 rw[List.range_succ,List.flatMap_append]
 simp
theorem Pr {ns:List Str}{A:Str->Str->Nat}{i m:Nat}{y:Str}(h:(ns.drop (i+1))[m]? = some y):quR ns A i (m+1)=quR ns A i m++if A (ns.getD i "") y≠0/\A y (ns.getD i "")≠0 then [qsD (ns.getD i "",y) (A (ns.getD i "") y) (A y (ns.getD i ""))] else []:=by
 unfold quR
 rw[List.take_add_one,h,List.filter_append,List.map_append]
 congr 1
 by_cases c:A (ns.getD i "") y≠0/\A y (ns.getD i "")≠0
 . rw[if_pos c]
   show(([y].filter fun y=>decide (A (ns.getD i "") y≠0/\A y (ns.getD i "")≠0)).map _)=_
   rw[List.filter_cons,if_pos (by rw[decide_eq_true c])]
   rfl
 rw[if_neg c]
 have:([y].filter fun y=>decide (A (ns.getD i "") y≠0/\A y (ns.getD i "")≠0))=[]:=by
  rw[List.filter_cons,if_neg (by rw[decide_eq_false c];decide)]
  rfl
 show(([y].filter fun y=>decide (A (ns.getD i "") y≠0/\A y (ns.getD i "")≠0)).map _)=_
 rw[this]
 rfl
theorem Df {K:PySem.W.Frag}{H:Hp}{d:PyData}{ds:List PyData}{vs:List V}(h:IsL K H (d :: ds) vs):∃ v r,vs=v :: r/\Is K H d v/\IsL K H ds r:=by simpa only[IsL] using h
theorem Sq {α:Type}{K:PySem.W.Frag}{H:Hp}{f:α->PyData}{xs ys:List V}(hp:ys.Perm xs):∀ {S:List α},IsL K H (S.map f) xs->∃ S':List α,S'.Perm S/\IsL K H (S'.map f) ys:=by
 induction hp with
 | nil=>
   intro S h
   exact⟨S,.refl _,h⟩
 | @cons x l1 l2 _ ih=>
   intro S h
   match S,h with
   | [],h=>simp only[List.map_nil,IsL] at h;cases h
   | s :: S,h=>
     obtain⟨v,r,e,h1,h2⟩:=Df h
     cases e
     obtain⟨S',q1,q2⟩:=ih h2
     exact⟨s :: S',q1.cons _,.cons h1 q2⟩
 | @swap x y l=>
   intro S h
   match S,h with
   | [],h=>simp only[List.map_nil,IsL] at h;cases h
   | [s],h=>
     obtain⟨v,r,e,h1,h2⟩:=Df h
     cases e
     simp only[List.map_nil,IsL] at h2
     cases h2
   | s :: s2 :: S,h=>
     obtain⟨v,r,e,h1,h2⟩:=Df h
     cases e
     obtain⟨v',r',e',h1',h2'⟩:=Df h2
     cases e'
     exact⟨s2 :: s :: S,.swap ..,.cons h1' (.cons h1 h2')⟩
 | trans p1 p2 ih1 ih2=>
   intro S h
   obtain⟨S2,q1,q2⟩:=ih2 h
   obtain⟨S1,q3,q4⟩:=ih1 q2
   exact⟨S1,q3.trans q1,q4⟩
def crs (A B:List Str):List (Str×Str):=A.flatMap fun x=>B.map fun y=>(x,y)
theorem mem_crs {A B:List Str}{p:Str×Str}:p∈crs A B↔p.1∈A/\p.2∈B:=by
 unfold crs
 rw[List.mem_flatMap]
 constructor
 . rintro⟨x,hx,h⟩
   obtain⟨y,hy,rfl⟩:=List.mem_map.mp h
   exact⟨hx,hy⟩
 rintro⟨h1,h2⟩
 exact⟨p.1,h1,List.mem_map.mpr ⟨p.2,h2,rfl⟩⟩
theorem Ph (A B:List Str):(crs A B).length=A.length*B.length:=by
 unfold crs
 induction A with
 | nil=>simp
 | cons a A ih=>rw[List.flatMap_cons,List.length_append,ih,List.length_map,List.length_cons,Nat.succ_mul];omega
theorem Uv {A B:List Str} {pA pB:List (Str×Str)} (hA:∀ p∈pA,p.1∈A/\p.2∈A) (hB:∀ p∈pB,p.1∈B/\p.2∈B) (hd:∀ z∈A,z∉B) {x y:Str}:Way (pA++pB++crs A B) x y↔Way pA x y\/Way pB x y\/(x∈A/\y∈B):=by
 constructor
 . intro g
   induction g with
   | @one x y m=>
     rcases List.mem_append.mp m with m | m
     . rcases List.mem_append.mp m with m | m
       . exact .inl (.one m)
       exact .inr (.inl (.one m))
     exact .inr (.inr (mem_crs.mp m))
   | @cons x z y m _ ih=>
     rcases List.mem_append.mp m with m | m
     . rcases List.mem_append.mp m with m | m
       . have hz:=(hA _ m).2
         rcases ih with g | g | ⟨g1,g2⟩
         . exact .inl (.cons m g)
         . exact absurd (Way.mem hB g).1 (hd z hz)
         exact .inr (.inr ⟨(hA _ m).1,g2⟩)
       have hz:=(hB _ m).2
       rcases ih with g | g | ⟨g1,g2⟩
       . exact absurd hz (hd z (Way.mem hA g).1)
       . exact .inr (.inl (.cons m g))
       exact absurd hz (hd z g1)
     have hz:=mem_crs.mp m
     rcases ih with g | g | ⟨g1,g2⟩
     . exact absurd hz.2 (hd z (Way.mem hA g).1)
     . exact .inr (.inr ⟨hz.1,(Way.mem hB g).2⟩)
     exact absurd hz.2 (hd z g1)
 rintro(g | g | g)
 . exact g.mono fun p hp=>List.mem_append_left _ (List.mem_append_left _ hp)
 . exact g.mono fun p hp=>List.mem_append_left _ (List.mem_append_right _ hp)
 exact .one (List.mem_append_right _ (mem_crs.mpr g))
structure Two (ns A B:List Str)(pA pB S:List (Str×Str)):Prop where
 nm:Names ns
 le:ns.length<=10
 pm:(A++B).Perm ns
 hA:HalfW A pA
 hB:HalfW B pB
 lA:A.length<=5
 lB:B.length<=5
 sA:pA.length<=15
 sB:pB.length<=15
 ps:S.Perm (pA++pB++crs A B)
section
variable {ns A B:List Str}{pA pB S:List (Str×Str)}
theorem Two.nd (h:Two ns A B pA pB S):(A++B).Nodup:=h.pm.nodup_iff.mpr h.nm.1
theorem Two.dj (h:Two ns A B pA pB S):∀ z∈A,z∉B:=fun z h1 h2=>(List.nodup_append.mp h.nd).2.2 z h1 z h2 rfl
theorem Two.way (h:Two ns A B pA pB S){x y:Str}:Way S x y↔Way pA x y\/Way pB x y\/(x∈A/\y∈B):=by
 rw[<- Uv h.hA.mem h.hB.mem h.dj]
 exact⟨fun g=>g.mono fun p hp=>h.ps.mem_iff.mp hp,fun g=>g.mono fun p hp=>h.ps.mem_iff.mpr hp⟩
theorem Two.half (h:Two ns A B pA pB S):HalfW ns S:=by
 refine⟨h.nm.1,fun p hp=>?_,fun x g=>?_,Nat.le_trans h.le (by decide),?_⟩
 . have mA:∀ z∈A,z∈ns:=fun z hz=>h.pm.mem_iff.mp (List.mem_append_left _ hz)
   have mB:∀ z∈B,z∈ns:=fun z hz=>h.pm.mem_iff.mp (List.mem_append_right _ hz)
   rcases List.mem_append.mp (h.ps.mem_iff.mp hp) with q | q
   . rcases List.mem_append.mp q with q | q
     . exact⟨mA _ (h.hA.mem p q).1,mA _ (h.hA.mem p q).2⟩
     exact⟨mB _ (h.hB.mem p q).1,mB _ (h.hB.mem p q).2⟩
   exact⟨mA _ (mem_crs.mp q).1,mB _ (mem_crs.mp q).2⟩
 . rcases h.way.mp g with g | g | ⟨g1,g2⟩
   . exact h.hA.irr x g
   . exact h.hB.irr x g
   exact h.dj x g1 g2
 rw[h.ps.length_eq,List.length_append,List.length_append,Ph]
 have:=h.sA
 have:=h.sB
 have:=Nat.mul_le_mul h.lA h.lB
 omega
theorem Two.slen (h:Two ns A B pA pB S):S.length<=60:=by
 rw[h.ps.length_eq,List.length_append,List.length_append,Ph]
 have:=h.sA
 have:=h.sB
 have:=Nat.mul_le_mul h.lA h.lB
 omega
theorem Sy {qA qB T:List (Str×Str)}(hn:(A++B).Nodup)(hp:(A++B).Perm ns)(hA:∀ p∈qA,p.1∈A/\p.2∈A)(hB:∀ p∈qB,p.1∈B/\p.2∈B)(hT:∀ p,p∈T↔p∈qA++qB++crs A B):cnt (Ae T) ns=cnt (Ae qA) A*cnt (Ae qB) B:=by
 obtain⟨n1,n2,n3⟩:=List.nodup_append.mp hn
 have hd:∀ z∈A,z∉B:=fun z h1 h2=>n3 z h1 z h2 rfl
 have hw:∀ x y,Way T x y↔Way qA x y\/Way qB x y\/(x∈A/\y∈B):=fun x y=>by
  rw[<- Uv hA hB hd]
  exact⟨fun g=>g.mono fun p hp=>(hT p).mp hp,fun g=>g.mono fun p hp=>(hT p).mpr hp⟩
 rw[<- Xk (hp.nodup_iff.mp hn) hp,M5 A.length rfl hn fun x hx y hy=>⟨wayB_iff.mpr ((hw x y).mpr (.inr (.inr ⟨hx,hy⟩))),Hk fun g=>?_⟩]
 . congr 1
   . refine Js A.length rfl n1 fun x hx y hy=>?_
     rw[Bool.eq_iff_iff,wayB_iff,wayB_iff,hw]
     constructor
     . rintro(g | g | g)
       . exact g
       . exact absurd (Way.mem hB g).1 (hd x hx)
       exact absurd g.2 (hd y hy)
     exact .inl
   refine Js B.length rfl n2 fun x hx y hy=>?_
   rw[Bool.eq_iff_iff,wayB_iff,wayB_iff,hw]
   constructor
   . rintro(g | g | g)
     . exact absurd hx (hd x (Way.mem hA g).1)
     . exact g
     exact absurd hx (hd x g.1)
   exact fun g=>.inr (.inl g)
 rcases(hw y x).mp g with g | g | g
 . exact hd y (Way.mem hA g).1 hy
 . exact hd x hx (Way.mem hB g).2
 exact hd y g.1 hy
def Ep (rows:List (List Str))(x y:Str):Nat:=(rows.filter fun r=>decide (r.idxOf x<r.idxOf y)).length
def twN (A B:List Str)(pA pB:List (Str×Str))(x y:Str):Nat:=if x∈A/\y∈A then Ep (ext (Ae pA) A.length A) x y*cnt (Ae pB) B else if x∈B/\y∈B then Ep (ext (Ae pB) B.length B) x y*cnt (Ae pA) A else 0
theorem Two.cnt (h:Two ns A B pA pB S){x y:Str}(hs:(x∈A/\y∈A)\/(x∈B/\y∈B)):twN A B pA pB x y=L2.cnt (Ae (S++[(x,y)])) ns:=by
 unfold twN
 rcases hs with hs | hs
 . rw[if_pos hs]
   unfold Ep
   rw[<- G5 h.hA hs.1 hs.2]
   refine(Sy h.nd h.pm (fun p hp=>?_) h.hB.mem fun p=>?_).symm
   . rcases List.mem_append.mp hp with hp | hp
     . exact h.hA.mem p hp
     rw[show p=(x,y) by simpa using hp]
     exact hs
   have:=h.ps.mem_iff (a:=p)
   simp only[List.mem_append,List.mem_singleton] at this ⊢
   rw[this]
   constructor
   . rintro((q | q) | q)
     . rcases q with q | q
       . exact .inl (.inl (.inl q))
       exact .inl (.inr q)
     . exact .inr q
     exact .inl (.inl (.inr q))
   rintro(((q | q) | q) | q)
   . exact .inl (.inl (.inl q))
   . exact .inr q
   . exact .inl (.inl (.inr q))
   exact .inl (.inr q)
 rw[if_neg (fun q=>h.dj x q.1 hs.1),if_pos hs]
 unfold Ep
 rw[<- G5 h.hB hs.1 hs.2,Nat.mul_comm]
 refine(Sy h.nd h.pm h.hA.mem (fun p hp=>?_) fun p=>?_).symm
 . rcases List.mem_append.mp hp with hp | hp
   . exact h.hB.mem p hp
   rw[show p=(x,y) by simpa using hp]
   exact hs
 have:=h.ps.mem_iff (a:=p)
 simp only[List.mem_append,List.mem_singleton] at this ⊢
 rw[this]
 constructor
 . rintro((q | q) | q)
   . rcases q with q | q
     . exact .inl (.inl q)
     exact .inl (.inr (.inl q))
   . exact .inr q
   exact .inl (.inr (.inr q))
 rintro((q | (q | q)) | q)
 . exact .inl (.inl (.inl q))
 . exact .inl (.inl (.inr q))
 . exact .inr q
 exact .inl (.inr q)
end
section
variable {prog:Program}{w:World}{A:Around}{E:Value->Shared->Prop}{s:Shared}{Q:Value->Shared->Prop}
theorem Pk {t:Addr}{m n:Int}{t1 t2:Tok}(hh:A.handled=none)(ht:s.heap.IsTuple t #[.int m t1,.int n t2])
  (h:∀ u h' tk,(∀ b o,s.heap.get? b=some o->h'.get? b=some o)->Q (.int (if n<m then n else m) u) { s with heap:=h',toks:=tk }) :
  wpAny (model prog w) A (call (.builtin "min") [.ref t]) Q E s:=by
 have hlt:t<s.heap.objs.size:=by obtain⟨_,e,_⟩:=ht;exact Heap.lt_size e
 refine call_min_walk (wpAny_pyIter_tuple ht ?_)
 have hne:t≠s.heap.objs.size:=Nat.ne_of_lt hlt
 refine⟨_,_,_,_,_,_,_,rfl,Walks.tuple (A:=A.in1) hh s.heap.objs.size t hne #[.int m t1,.int n t2],⟨⟨_,Heap.get?_push_size _ rfl,rfl,rfl⟩,?_⟩,fun b hb=>?_,(by show 0<2;decide),CmpOf.ints_lt (fun i=>if i=0 then m else n) (fun i v hv=>?_),fun v h' tk hP hk=>?_⟩
 . obtain⟨o,e,r⟩:=ht
   exact⟨o,Heap.get?_push_of_some _ e,r⟩
 . show b<(s.heap.push _).objs.size
   rw[Heap.size_push]
   simp only[List.mem_cons,List.not_mem_nil,or_false] at hb
   rcases hb with rfl | rfl
   . exact Nat.lt_succ_self _
   exact Nat.lt_succ_of_lt hlt
 . match i,hv with
   | 0,hv=>cases hv;exact⟨t1,rfl⟩
   | 1,hv=>cases hv;exact⟨t2,rfl⟩
   | i+2,hv=>simp at hv
 have keep:∀ b o,s.heap.get? b=some o->h'.get? b=some o:=fun b o e=>hk b o (fun z=>by
  have z':b=s.heap.objs.size:=by simpa using z
  have e':=Heap.lt_size e
  rw[z'] at e'
  exact absurd e' (Nat.lt_irrefl _)) (Heap.get?_push_of_some _ e)
 by_cases c:n<m
 . have hP:(#[Value.int m t1,.int n t2])[argBest (fun i j=>decide ((if i=0 then m else n)<(if j=0 then m else n))) (2-1)]? = some v:=hP
   have e1:argBest (fun i j=>decide ((if i=0 then m else n)<(if j=0 then m else n))) (2-1)=1:=by
    show(if decide ((if 0+1=0 then m else n)<(if 0=0 then m else n)) then 0+1 else 0)=1
    simp[c]
   rw[e1] at hP
   cases hP
   have:=h t2 h' tk keep
   rwa[if_pos c] at this
 have hP:(#[Value.int m t1,.int n t2])[argBest (fun i j=>decide ((if i=0 then m else n)<(if j=0 then m else n))) (2-1)]? = some v:=hP
 have e1:argBest (fun i j=>decide ((if i=0 then m else n)<(if j=0 then m else n))) (2-1)=0:=by
  show(if decide ((if 0+1=0 then m else n)<(if 0=0 then m else n)) then 0+1 else 0)=0
  simp[c]
 rw[e1] at hP
 cases hP
 have:=h t1 h' tk keep
 rwa[if_neg c] at this
end
abbrev a60 (p:Pos):Arguments:={ posonlyargs:=[],args:=[{ arg:="question",annotation:=none,pos:=p }],vararg:=none,kwonlyargs:=[],kw_defaults:=[],kwarg:=none,defaults:=[] }
abbrev a61 (p1 p2 p3 p4 p5:Pos):Expr:=.Call (.Name "min" p1) [.Subscript (.Name "question" p2) (.Constant (.int 1) 0 p3) p4] [] p5
abbrev a55:Scope:={ kind:=.function,names:=[("question",.local),("min",.globalImplicit)],isGenerator:=false,isCoroutine:=false,more:=[] }
section
variable {prog:Program}{w:World}{A:Around}{E:Value->Shared->Prop}{s:Shared}{Q:Value->Shared->Prop}
theorem Xc {q c' a b:Addr}{qual:Str}{pm ctv x:Value}{p p1 p2 p3 p4 p5:Pos}{m n:Int}{t1 t2:Tok}{mg mb:Str->Option Value}(hh:A.handled=none)(hroom:A.depth<recursionLimit)
  (ho:s.heap.get? q=some (PySem.W.kla_obj "<lambda>" qual (a60 p) (a61 p1 p2 p3 p4 p5) a55 [] pm c' ctv)) (hcd:s.heap.CodeRec (.ref c') qual) (lim:s.heap.NoLimit)
  (hg:s.heap.Ns mainGlobals mg) (hm:mg "min" = none) (hb:s.heap.Ns builtinsNs mb) (hmb:mb "min" = some (.builtin "min"))
  (ht:IsTup s.heap a #[x,.ref b]) (ht2:s.heap.IsTuple b #[.int m t1,.int n t2])
  (h:∀ u h' tk,(∀ b o,s.heap.get? b=some o->h'.get? b=some o)->Q (.int (if n<m then n else m) u) { s with heap:=h',toks:=tk }) :
  wpAny (model prog w) A (call (.ref q) [.ref a]) Q E s:=by
 refine wpAny_call (PySem.W.kla_callFunE hroom ho rfl rfl rfl rfl hcd ?_)
 rw[show bindArgs (PySem.W.kla_fn "<lambda>" qual (a60 p) (a61 p1 p2 p3 p4 p5) a55 [] pm (.ref c') ctv) ⟨[.ref a],[]⟩=(pure [(("question":Str),Value.ref a)]:Sem (List (Str×Value))) from rfl]
 refine wpAny_pure (wpAny_newFunctionEnv (fun y hy=>?_) (fun y hy=>?_) (fun h₁ hns hsb=>⟨lim.fresh _ hsb,?_⟩) rfl)
 . simp only[List.mem_cons,List.not_mem_nil,or_false] at hy
   rcases hy with rfl | rfl<;>simp
 . have:y=(("question":Str),Value.ref a):=by simpa using hy
   rw[this]
   rfl
 have hk₁:∀ b o,s.heap.get? b=some o->h₁.get? b=some o:=fun b o e=>hsb.extBut b o (Nat.ne_of_lt (Heap.lt_size e)) (Heap.get?_push_of_some _ e)
 refine PySem.W.kla_codeExpr ?_
 refine wpAny_Call_Name_kw (Calls.Name_function_global rfl rfl (Calls.loadGlobal_builtin (hg.keeps hk₁) hm (hb.keeps hk₁) hmb ?_) rfl)
 refine PyProof.Rows.callWith_builtin1 ?_ rfl rfl
 refine Calls.spliced_cons (Subscript_ (wpAny_Name (wpAny_loadName_local rfl rfl hns rfl (wpAny_Constant_int ?_)) rfl))
 refine subscriptTail_builtin (IsTup.typeIs (s:=_) (ht.keeps hk₁)) slot_tuple_getitem.lookup (getItem_tuple (j:=1) (ht.keeps hk₁) (by decide) (by decide) rfl rfl ?_)
 refine Calls.spliced_nil ?_
 have ht3:h₁.IsTuple b #[.int m t1,.int n t2]:=by
  obtain⟨o,e,r⟩:=ht2
  exact⟨o,hk₁ _ _ e,r⟩
 exact Pk (t:=b) hh ht3 fun u h' tk hk=>h u h' tk fun b o e=>hk b o (hk₁ b o e)
end
section
variable {X:Cx}{pins:List (Addr×Obj)}{σ:List (Option V)}{H:Hp}{s:Shared}{h':Heap}
def Zr (K:PySem.W.Frag):List V->Hp->VK->Prop:=fun vs H Q=>∃ l xs,∃ kf:Nat->Int,vs=[.ref l]/\SqL K H l xs/\0<xs.length/\(∀(i:Nat) v,xs[i]? = some v->∃ a b x m n,v = .ref a/\SqT K H a [x,.ref b]/\SqT K H b [.int m,.int n]/\kf i=if n<m then n else m) /\
 ∀(i:Nat) v,xs[i]? = some v->(∀ j,j<xs.length->kf i>=kf j/\(j<i->kf i>kf j))->Q v H
theorem Sd {Q:VK}{u:List Value}{q c':Addr}{qual:Str}{pm ctv:Value}{p p1 p2 p3 p4 p5:Pos}(hc:X.calm=true)(hroom:X.A.in1.depth<recursionLimit)(hmin:X.mg "min" = none)(I:Inv X pins σ H s){vs:List V}(r:Vals vs u)
  (ho:s.heap.get? q=some (PySem.W.kla_obj "<lambda>" qual (a60 p) (a61 p1 p2 p3 p4 p5) a55 [] pm c' ctv)) (hcd:s.heap.CodeRec (.ref c') qual) (h:Zr X.K vs H Q) :
  wpAny (model X.prog X.w) X.A (call (.builtin "max") u [(Str.ofString "key",.ref q)]) (EP X pins σ Q) X.xe s:=by
 obtain⟨l,xs,kf,rfl,hl,hne,hel,hq⟩:=h
 obtain⟨v,rfl,rv⟩:=Gi r
 cases rv
 obtain⟨its,r1,pl,_⟩:=I.list hl
 have hil:=r1.length
 obtain⟨m,hn,hlk⟩:=I.loc
 have F:Fr X.base X.env.locals s.heap m:=⟨hn,I.bk,Nat.le_trans I.ok.bsz I.ok.above⟩
 have keep:∀ {h:Heap} {more:List (Addr×Obj)},Fr X.base X.env.locals h m->News X.base X.env.locals h (Fm X.base s.heap X.env.locals++more)->∀ b u,b≠X.env.locals->s.heap.get? b=some u->h.get? b=some u:=fun F' N'=>Mg I.bk F'.keep N'
 have notD:∀ {c:Addr} {o:Obj},s.heap.get? c=some o->(∀ es ep,o.data ≠ .dict es ep)->c≠X.env.locals:=fun {c o} e1 e2 z=>by
  obtain⟨oL,es,ep,e4,e5⟩:=hn
  rw[z,e4] at e1
  cases e1
  exact e2 es ep e5.1
 have notT:∀ {c:Addr} {zs:Array Value},IsTup s.heap c zs->c≠X.env.locals:=fun {c zs} p=>by
  obtain⟨o,e1,e2,n,e3⟩:=p
  exact notD e1 fun es ep z=>by rw[e3] at z;cases z
 have notL:l≠X.env.locals:=by
  obtain⟨o,e1,e2,n,e3⟩:=pl.isList
  exact notD e1 fun es ep z=>by rw[e3] at z;cases z
 have fin:∀ {h:Heap} {t':Nat},Fr X.base X.env.locals h m->News X.base X.env.locals h (Fm X.base s.heap X.env.locals)->Inv X pins σ H { s with heap:=h,toks:=t' }:=fun {h t'} F' N'=>I.nsed (keep (more:=[]) F' (by rw[List.append_nil];exact N')) hlk F'.ns
 have tupK:∀ {h:Heap} {more:List (Addr×Obj)} {c:Addr} {zs:Array Value},Fr X.base X.env.locals h m->News X.base X.env.locals h (Fm X.base s.heap X.env.locals++more)->IsTup s.heap c zs->IsTup h c zs:=fun F' N' p=>by
  have hne:=notT p
  obtain⟨o,e1,e2⟩:=p
  exact⟨o,keep F' N' _ _ hne e1,e2⟩
 refine kmk_max kf (vs:=its) (I.ok.hd hc) F X3 (fun h F' N'=>?_) (by omega) (fun i v hv h tk own F' N'=>?_) (fun i v h tk hv hb F' N'=>?_)
 . obtain⟨o,e1,e2⟩:=pl.isList
   exact⟨o,keep (more:=[]) F' (by rw[List.append_nil];exact N') _ _ notL e1,e2⟩
 . obtain⟨x,hx,rx⟩:∃ x,xs[i]? = some x/\RelV x v:=by
    have hi:i<xs.length:=by rw[hil];exact(List.getElem?_eq_some_iff.mp hv).1
    obtain⟨u,hu,ru⟩:=r1.get (List.getElem?_eq_getElem hi)
    rw[hv] at hu
    cases hu
    exact⟨_,List.getElem?_eq_getElem hi,ru⟩
   obtain⟨a,b,y,m',n',rfl,hS1,hS2,hk⟩:=hel i x hx
   cases rx
   obtain⟨i1,w1,pa,_⟩:=I.tuple hS1
   obtain⟨i2,w2,pb,_⟩:=I.tuple hS2
   obtain⟨y1,y2,rfl,ry1,ry2⟩:=Vals.two w1
   cases ry2
   obtain⟨z1,z2,rfl,rz1,rz2⟩:=Vals.two w2
   obtain⟨tk1,rfl⟩:=rz1
   obtain⟨tk2,rfl⟩:=rz2
   obtain⟨mb,hb1,hb2⟩:=I.mod.blt
   refine Xc (s:={ s with heap:=h,toks:=tk }) (m:=m') (n:=n') (t1:=tk1) (t2:=tk2) (mg:=X.mg) (mb:=mb) (I.ok.hd hc) hroom (keep F' N' _ _ (notD ho fun es ep z=>by cases z) ho) ?_ (I.mod.nolimit.keeps F'.keep) (I.mod.glob.keeps F'.keep) hmin (hb1.keeps F'.keep) ((hb2 "min" (by decide)).trans PyProof.Rows.boot_min) (tupK F' N' pa) ?_ fun u h2 tk2' hk2=>?_
   . obtain⟨c,oc,vs,tq,e0,e1,e2,e3⟩:=hcd
     cases e0
     exact⟨c',oc,vs,tq,rfl,keep F' N' _ _ (notD e1 fun es ep z=>by rw[e2] at z;cases z) e1,e2,e3⟩
   . have:=tupK F' N' pb
     exact this
   rw[hk]
   exact KskEnd.intro ⟨F'.ns.keeps hk2,fun b o e=>hk2 b o (F'.keep b o e),F'.above⟩ (fun p hp=>⟨hk2 _ _ (N' p hp).1,(N' p hp).2⟩) fun p hp=>hp
 obtain⟨x,hx,rx⟩:∃ x,xs[i]? = some x/\RelV x v:=by
  have hi:i<xs.length:=by rw[hil];exact(List.getElem?_eq_some_iff.mp hv).1
  obtain⟨u,hu,ru⟩:=r1.get (List.getElem?_eq_getElem hi)
  rw[hv] at hu
  cases hu
  exact⟨_,List.getElem?_eq_getElem hi,ru⟩
 exact⟨x,H,fin F' N',rx,hq i x hx fun j hj=>hb j (by omega)⟩
end
def Pz (c':Addr)(qual:Str):HO:=.ext fun h=>h.CodeRec (.ref c') qual
def LamT (P:Addr)(line col:Nat)(qual:Str)(H:Hp):Prop:=H P=some (.tbl #[])\/∃ c',H P=some (.tbl #[rawInt line,rawInt col,.ref c'])/\H c'=some (Pz c' qual)
structure ai9 (X:Cx)(c P:Addr):Prop where
 code:X.env.code = .ref c
 hd:PySem.W.CodeHd X.base c P
 bi:X.base.BuiltinsAt X.mg P
 gP:mainGlobals≠P
section
variable {X:Cx}{pins:List (Addr×Obj)}{σ:List (Option V)}{H:Hp}{s:Shared}{h':Heap}
theorem Go {c':Addr}{qual:Str}{h1 h2:Heap}(x:h1.CodeRec (.ref c') qual)(k:∀ o,h1.get? c'=some o->h2.get? c'=some o):h2.CodeRec (.ref c') qual:=by
 obtain⟨c,oc,vs,tq,e0,e1,e2,e3⟩:=x
 cases e0
 exact⟨c',oc,vs,tq,rfl,k _ e1,e2,e3⟩
theorem Inv.grown {P c':Addr}{ps more:Array Value}{qual:Str}{t':Nat}(I:Inv X pins σ H s)(hP:H P=some (.tbl ps))(k:∀ b u,b≠P->s.heap.get? b=some u->h'.get? b=some u)(hP':h'.get? P=some (PySem.W.tabObj (ps++more)))(hc:s.heap.objs.size<=c')(hr:h'.CodeRec (.ref c') qual) :
  Inv X pins σ (upd (upd H P (.tbl (ps++more))) c' (Pz c' qual)) { s with heap:=h',toks:=t' }:=by
 have hcn:H c'=none:=I.hok.fresh hc
 have hcP:c'≠P:=fun z=>by rw[z,hP] at hcn;cases hcn
 have at_P:(upd (upd H P (.tbl (ps++more))) c' (Pz c' qual)) P=some (.tbl (ps++more)):=by rw[Aq hcP.symm,A9]
 have ot:∀ b,b≠P->b≠c'->(upd (upd H P (.tbl (ps++more))) c' (Pz c' qual)) b=H b:=fun b h1 h2=>by rw[Aq h2,Aq h1]
 have trk:∀ b o,H b=some o->b≠c':=fun b o e z=>by rw[z,hcn] at e;cases e
 refine I.call (ch:=[]) ⟨fun b o e n _ _=>k b o (fun z=>by rw[z,hP] at n;cases n) e,fun b o e n _ _=>⟨o.slots,k b o (fun z=>by rw[z,hP] at n;cases n) e⟩,fun b o e n _=>?_,fun b o e _=>?_,fun b xs e=>?_,fun b o u e=>?_,fun b qs e=>?_⟩ (fun b o e=>?_) I.bare (fun b z=>absurd z (by simp))
 . rw[ot b (fun z=>by rw[z,hP] at n;cases n) (fun z=>by rw[z] at e;exact absurd (Heap.lt_size e) (Nat.not_lt_of_le hc))]
   exact n
 . by_cases z:b=P
   . rw[z];exact⟨_,hP'⟩
   exact⟨o,k b o z e⟩
 . rw[ot b (fun z=>by rw[z,hP] at e;cases e) (trk b _ e)]
   exact e
 . rw[ot b (fun z=>by rw[z,hP] at e;cases e) (trk b _ e)]
   exact e
 . by_cases z:b=P
   . subst z
     rw[hP] at e
     cases e
     exact⟨more,at_P⟩
   exact⟨#[],by rw[ot b z (trk b _ e),e];simp⟩
 by_cases z:b=c'
 . subst z
   rw[A9] at e
   cases e
   refine⟨hr,?_,fun h1 h2 x y=>Go x y⟩
   obtain⟨c,oc,vs,tq,e0,e1,_⟩:=hr
   cases e0
   exact⟨oc,e1⟩
 by_cases z2:b=P
 . subst z2
   rw[at_P] at e
   cases e
   exact hP'
 rw[ot b z2 z] at e
 refine(I.hok b o e).stay (fun d u hd q=>k d u (fun y=>?_) q) (fun d q=>?_) fun d xs q=>?_
 . rcases hd with rfl | hd
   . exact z2 y
   rw[y,hP] at hd;cases hd
 . rw[ot d (fun y=>by rw[y,hP] at q;cases q) (trk d _ q)]
   exact q
 rw[ot d (fun y=>by rw[y,hP] at q;cases q) (trk d _ q)]
 exact q
def a93 (K:PySem.W.Frag)(P:Addr)(line col:Nat)(qual:Str)(t:TA):TE:=fun σ H Q=>t σ H fun vs H1=>LamT P line col qual H1/\∀ H2,ExtBut P H1 H2->LamT P line col qual H2->Zr K vs H2 Q
theorem Wi {K:PySem.W.Frag}{c P:Addr}{ea:Expr}{t:TE}{p p0 p1 p2 p3 p4 p5 pl p7 pos:Pos}(L:ai9 X c P)(hc:X.calm=true)(hroom:X.A.in1.depth<recursionLimit)(hg:Gl X "max")(hm:X.mg "max" = none)(hmin:X.mg "min" = none)(ha:PA X [ea] (X7 t ah8))(hK:X.K=K:=by ac_nf)
  (he:backTo pos (starEach [ea] X.env)=(false,eval ea X.env) :: backTo pos (starEach [] X.env):=by ac_nf) (hpl:(backTo pos (starEach [ea] X.env)).any (·.1)=false:=by ac_nf) :
  PE X (.Call (.Name "max" p) [ea] [⟨some "key",.Lambda (a60 p0) (a61 p1 p2 p3 p4 p5) a55 pl,p7⟩] pos) (a93 K P pl.line pl.col (X.env.qual ++ "<lambda>") (X7 t ah8)):=by
 subst hK
 intro pins s σ H Q I h
 refine wpAny_Call_Name_kw (J8 I hg hm PyProof.Rows.Boot.«max» ?_)
 refine callWith_kw (thn (ha pos pins s σ H _ I h) fun us s1 ⟨vs,H1,I1,r1,q1⟩=>?_) he hpl rfl rfl
 obtain⟨hT,q1⟩:=q1
 refine kws_cons (PySem.W.kla_eval rfl ?_)
 have hbi:s1.heap.BuiltinsAt X.mg P:=by
  obtain⟨bm,ob,b1,b2,b3,b4,b5,b6⟩:=L.bi
  exact⟨bm,ob,b1,b2,b3,b4,I1.bk _ _ b5,b6⟩
 rcases hT with hT | ⟨c',hT,hC⟩
 . have hP:=I1.hok P _ hT
   refine PySem.W.kla_makeFunction (mg:=X.mg) rfl I1.ok.glob (I1.mod.glob.keeps I1.bk) L.code (L.hd.keeps I1.bk) hP trivial rfl L.gP hbi fun c' ctv h2 tk hx hge hlt hrec htb=>kws_nil ?_
   have I2:=Inv.grown (t':=tk) (h':=h2.push (PySem.W.kla_obj "<lambda>" (X.env.qual ++ "<lambda>") (a60 p0) (a61 p1 p2 p3 p4 p5) a55 [] ((X.mg "__name__").getD .none) c' ctv)) I1 hT (fun b u hb e=>Heap.get?_push_of_some _ (hx b u hb e)) (Heap.get?_push_of_some _ htb) hge (Go hrec fun o e=>Heap.get?_push_of_some _ e)
   refine Sd hc hroom hmin I2 r1 (Heap.get?_push_size _ rfl) (Go hrec fun o e=>Heap.get?_push_of_some _ e) (q1 _ ?_ ?_)
   . intro b o hb e
     have hcn:H1 c'=none:=I1.hok.fresh hge
     rw[Aq (fun z=>by rw[z,hcn] at e;cases e),Aq hb]
     exact e
   have hcn:H1 c'=none:=I1.hok.fresh hge
   have hcP:P≠c':=fun z=>by rw[<- z,hT] at hcn;cases hcn
   exact .inr ⟨c',by rw[Aq hcP,A9];rfl,A9⟩
 have hP:=I1.hok P _ hT
 obtain⟨hrec,_,_⟩:=I1.hok c' _ hC
 refine PySem.W.kla_makeFunctionHit (mg:=X.mg) rfl I1.ok.glob (I1.mod.glob.keeps I1.bk) L.code (L.hd.keeps I1.bk) hP trivial (cv:=.ref c') (by simp[codeAmong,rawInt]) hbi fun ctv h2 tk hk hsz=>kws_nil ?_
 have I2:Inv X pins σ H1 { s1 with heap:=h2.push { cls:=.type "function",data:=.func (PySem.W.kla_fn "<lambda>" (X.env.qual ++ "<lambda>") (a60 p0) (a61 p1 p2 p3 p4 p5) a55 [] ((X.mg "__name__").getD .none) (.ref c') ctv) },toks:=tk }:=I1.kept fun b u e=>Heap.get?_push_of_some _ (hk b u e)
 exact Sd hc hroom hmin I2 r1 (Heap.get?_push_size _ rfl) (Go hrec fun o e=>Heap.get?_push_of_some _ (hk _ o e)) (q1 H1 .refl (.inr ⟨c',hT,hC⟩))
end
def Z3 (P:Addr)(H:Hp):Prop:=H P=some (.tbl #[])/\∀ b,b≠P->H b=none\/∃ o xs,H b=some (.frz o (.lst xs))
theorem Tc {P:Program}{w:World}{K:PySem.W.Frag}{mg mb:Str->Option Value}{CX:CXT}{k:Nat}{fa a c Pt:Addr}{fd:FuncData}{x:Str}{sp:Sp}{s₁:Shared}{vs:List Value}{ns:List Int}
  (KX:K.In s₁.heap) (hns:s₁.heap.Ns mainGlobals mg) (hb:s₁.heap.Ns builtinsNs mb) (hbb:∀ x:Str,x ≠ "__name__" -> mb x=bootBuiltins x) (hlim:s₁.heap.NoLimit) (hg:s₁.gens = #[])
  (ha:s₁.heap.get? a=some { cls:=.type "list",data:=.seq vs.toArray }) (hi:IntsAre vs ns) (hl:ns.length<=sizeLine) (hr:Room k callerA)
  (hPt:s₁.heap.get? Pt=some (PySem.W.tabObj #[])) (hCd:PySem.W.CodeHd s₁.heap c Pt) (hKP:K.lookup Pt=none) (hBi:s₁.heap.BuiltinsAt mg Pt)
  (F:∀ base:Heap,K.In base->base.Ns mainGlobals mg->base.BuiltinsAt mg Pt->FnOk P w K mg base CX k fa fd [x] sp) (hbind:∀(s:Shared) (u:Value),BindsTo s fd ⟨[u],[]⟩ [(x,u)])
  (hsp:∀ H:Hp,Z3 Pt H->SqL K H a (ns.map V.int)->sp [.ref a] H (fun v _=>v = .bl true) fun _ _ _=>False)
  (hCX:∀ H e s',CX [] H s₁ (fun _ _ _=>False) e s'->False) :
  codeAny (model P w) callerA (.call (.ref fa) ⟨[.ref a],[]⟩) (fun r s'=>r = .ok (.ret (.bool true))/\OldK s₁.heap s'.heap/\s'.os=s₁.os/\AllBare s'.gens) s₁:=by
 have rv:=M9 hi
 have lenV:=hi.length
 have haP:a≠Pt:=fun z=>by rw[z,hPt] at ha;cases ha
 have core:∀ H:Hp,Z3 Pt H->SqL K H a (ns.map V.int)->HOk P w H s₁.heap->(∀ b,H b≠none->b=a\/b=Pt)->(H a≠none->K.lookup a=none) ->
   codeAny (model P w) callerA (.call (.ref fa) ⟨[.ref a],[]⟩) (fun r s'=>r = .ok (.ret (.bool true))/\OldK s₁.heap s'.heap/\s'.os=s₁.os/\AllBare s'.gens) s₁:=by
  intro H hO hS hok hA hK
  have base_of:∀ {b:Addr} {o:Obj},s₁.heap.get? b=some o->H b=none->(Wp s₁.heap H).get? b=some o:=fun e n=>Xj e n
  have noA:∀ {b:Addr} {o:Obj},s₁.heap.get? b=some o->(∀ zs n,o.data ≠ .seq zs n)->(∀ zs,o.data ≠ .fields zs)->H b=none:=fun {b o} e d1 d2=>by
   cases q:H b with
   | none=>rfl
   | some u=>
     rcases hA b (by rw[q];simp) with e' | e'
     . subst e'
       rw[ha] at e;cases e
       exact absurd rfl (d1 _ _)
     subst e'
     rw[hPt] at e;cases e
     exact absurd rfl (d2 _)
  have nsK:∀ {b:Addr} {m:Str->Option Value},s₁.heap.Ns b m->(Wp s₁.heap H).Ns b m:=fun {b m} ⟨o,es,ep,e,d,r⟩=>⟨o,es,ep,base_of e (noA e (fun _ _ z=>by rw[d] at z;cases z) fun _ z=>by rw[d] at z;cases z),d,r⟩
  have hKb:K.In (Wp s₁.heap H):=fun b o e=>base_of (KX b o e) (by
   cases q:H b with
   | none=>rfl
   | some u=>
     rcases hA b (by rw[q];simp) with e' | e'
     . subst e'
       rw[hK (by rw[q];simp)] at e;cases e
     subst e'
     rw[hKP] at e;cases e)
  have hM:Mod K mg (Wp s₁.heap H):=⟨hKb,nsK hns,⟨mb,nsK hb,hbb⟩,let ⟨mc,h1,h2⟩:=hlim;⟨mc,nsK h1,h2⟩⟩
  have hBi':(Wp s₁.heap H).BuiltinsAt mg Pt:=by
   obtain⟨bm,ob,b1,b2,b3,b4,b5,b6,b7,b8⟩:=hBi
   exact⟨bm,ob,b1,b2,b3,b4,base_of b5 (noA b5 (fun _ _ z=>by rw[b8] at z;cases z) fun _ z=>by rw[b8] at z;cases z),b6,b7,b8⟩
  have e0:Env0 P w K mg (Wp s₁.heap H) callerA [] s₁ H:=⟨rfl,hM,fun b o e=>a43 e,Nat.le_of_eq (Wg _ _),trivial,fun b hb=>absurd (show b∈([]:List Addr) from hb) (by simp),hok,.of_eq hg⟩
  refine codeAny_mono ((F _ hKb (nsK hns) hBi').run callerA [] s₁ H ⟨[.ref a],[]⟩ [.ref a] [.ref a] _ _ hr e0 (hbind s₁ (.ref a)) (.cons rfl .nil) (hsp H hO hS)) fun r s' h=>?_
  cases r with
  | error e=>exact(hCX H e s' h).elim
  | ok fl=>
    cases fl with
    | next=>exact False.elim h
    | brk=>exact False.elim h
    | cont=>exact False.elim h
    | ret u=>
      obtain⟨v,H',os,bare,un,hok',r',q⟩:=h
      have q':v = .bl true:=q
      subst q'
      obtain rfl:u=Value.bool true:=r'
      have at_P:∃ ps,s'.heap.get? Pt=some (PySem.W.tabObj ps):=by
       obtain⟨more,z⟩:=un.tbls Pt _ hO.1
       exact ⟨_,hok' Pt _ z⟩
      have keep:∀ b o,b≠Pt->s₁.heap.get? b=some o->s'.heap.get? b=some o:=fun b o hb e=>by
       cases q:H b with
       | none=>exact un.keep b o e q (by intro z;exact absurd (show b∈([]:List Addr) from z) (by simp)) (by simp)
       | some u=>
         rcases hO.2 b hb with z | ⟨ob,xs,z⟩
         . rw[q] at z;cases z
         have z2:=un.frzs b ob _ z
         obtain⟨e1,_⟩:=hok b _ z
         obtain⟨e2,_⟩:=hok' b _ z2
         rw[e] at e1;cases e1
         exact e2
      refine⟨rfl,⟨fun b o e=>?_,fun b o e=>?_⟩,os,bare⟩
      . by_cases hb:b=Pt
        . subst hb
          obtain⟨ps,hp⟩:=at_P
          rw[hPt] at e
          cases e
          exact .inr (.inl ⟨(hCd.tab hPt).isCodeTable,rfl,#[],ps,rfl,by rw[Array.empty_append];exact hp⟩)
        exact .inl (keep b o hb e)
      by_cases hb:b=Pt
      . subst hb
        obtain⟨ps,hp⟩:=at_P
        exact⟨_,hp⟩
      exact⟨o,keep b o hb e⟩
 cases hk:K.lookup a with
 | some o=>
   have e:=KX a o hk
   rw[ha] at e
   cases e
   refine core (fun b=>if b=Pt then some (.tbl #[]) else none) ⟨if_pos rfl,fun b hb=>.inl (if_neg hb)⟩ (.inr ⟨_,vs.toArray,_,hk,rfl,rfl,rfl,by rw[List.size_toArray,lenV];exact hl,by simpa using rv⟩) (fun b u z=>?_) (fun b z=>?_) fun z=>?_
   . by_cases hb:b=Pt
     . have z':=(if_pos hb).symm.trans z
       cases z'
       subst hb
       exact hPt
     have z':=(if_neg hb).symm.trans z
     cases z'
   . by_cases hb:b=Pt
     . exact .inr hb
     exact absurd (if_neg hb) z
   exact absurd (if_neg haP) z
 | none=>
   refine core (fun b=>if b=a then some (.frz { cls:=.type "list",data:=.seq vs.toArray } (.lst (ns.map V.int))) else if b=Pt then some (.tbl #[]) else none) ⟨(if_neg haP.symm).trans (if_pos rfl),fun b hb=>?_⟩ (.inl (.inr ⟨{ cls:=.type "list",data:=.seq vs.toArray },if_pos rfl⟩)) (fun b u z=>?_) (fun b z=>?_) fun _=>hk
   . by_cases hba:b=a
     . exact .inr ⟨_,_,if_pos hba⟩
     exact .inl ((if_neg hba).trans (if_neg hb))
   . by_cases hba:b=a
     . have z':=(if_pos hba).symm.trans z
       cases z'
       subst hba
       exact⟨ha,by rw[List.length_map];exact hl,vs,_,rv,ha⟩
     have z':=(if_neg hba).symm.trans z
     by_cases hb:b=Pt
     . have z'':=(if_pos hb).symm.trans z'
       cases z''
       subst hb
       exact hPt
     have z'':=(if_neg hb).symm.trans z'
     cases z''
   by_cases hba:b=a
   . exact .inl hba
   by_cases hb:b=Pt
   . exact .inr hb
   exact absurd ((if_neg hba).trans (if_neg hb)) z
theorem walk_ofT {l:PySem.W.OpenLaw}{n k:Nat}{q:Program}{loose:List Str}{XP:(Str->Option Value)->Heap->Prop}{YP:World->Heap->Prop}{d:DefRec}{K:Params->PySem.W.Frag}{CX:World->CXT}{sp:World->Sp}{x:Str}{Pt:Addr}
  (hn:l.most=some n) (hn2:n<=sizeLine) (hdf:d.params.defaults=[]) (hr:Room k callerA)
  (hY:∀(w:World) (h:Heap),YP w h->(K w.params).In h) (hYT:∀(w:World) (h:Heap),YP w h->h.get? Pt=some (PySem.W.tabObj #[])) (hKP:∀(w:World),(K w.params).lookup Pt=none)
  (F:∀(w:World) (mg:Str->Option Value) (fa:Addr) (h:Heap),(K w.params).In h->h.Ns mainGlobals mg->mg d.name=some (.ref fa) ->
   ∃ fd:FuncData,(∃ c,PySem.W.codeHdIn (K w.params) c Pt=true)/\(∀(s:Shared) (u:Value),BindsTo s fd ⟨[u],[]⟩ [(x,u)]) /\
    ∀ base:Heap,(K w.params).In base->base.Ns mainGlobals mg->base.BuiltinsAt mg Pt->FnOk l.prog w (K w.params) mg base (CX w) k fa fd [x] (sp w))
  (hsp:∀(w:World) (H:Hp) (a:Addr) (ns:List Int),ns.length<=n->Z3 Pt H->SqL (K w.params) H a (ns.map V.int)->sp w [.ref a] H (fun v _=>v = .bl true) fun _ _ _=>False)
  (hCX:∀(w:World) (H:Hp) (s:Shared) (e:Value) (s':Shared),CX w [] H s (fun _ _ _=>False) e s'->False) :
  PySem.W.WalkO q loose XP YP l.row.toRowW d [] (fun f vs=>PySem.call f vs):=by
 refine Att.attach_call hn hdf fun w s₀ s₁ mg mb fa o pm cd doc a vs ns G Y ho hd hcd hmg hobj hints hlen hg=>?_
 have KX:=hY w _ Y
 have hPt:=hYT w _ Y
 have hBi:s₁.heap.BuiltinsAt mg Pt:=by
  obtain⟨bm,ob,b1,b2,b3,b4,b5,b6⟩:=G.T.bmain
  refine⟨bm,ob,b1,b2,fun z=>?_,fun z=>?_,b3,b4,b5,b6⟩
  . obtain⟨o',es,ep,e,hd',_⟩:=G.T.g
    rw[z,e] at b3
    cases b3
    rw[hd'] at b6
    cases b6
  rw[z,hPt] at b3
  cases b3
  cases b4
 obtain⟨fd,⟨c,hC⟩,hb,hF⟩:=F w mg fa _ KX G.T.g hmg
 have hCd:=PySem.W.codeHd_of_K KX hC
 exact Tc KX G.T.g G.T.b G.T.builtins G.T.nolimit hg hobj hints (Nat.le_trans hlen hn2) hr hPt hCd (hKP w) hBi hF hb (fun H hO hS=>hsp w H a ns hlen hO hS) fun H e s'=>hCX w H s₁ e s'
theorem Fun.okC {P:Program}{w:World}{K:PySem.W.Frag}{mg:Str->Option Value}{base:Heap}{x qual:Str}{st:Stmt}{f c:Addr}{fd:FuncData}{N ps:List Str}{k:Nat}{sp:Sp}(F:Fun K x qual st f fd)(hc:fd.code = .ref c)(S:Al N ps (A4 st))(len:∀ vs H Q E,sp vs H Q E->vs.length=ps.length)
  (hbody:∀(A:Around) (outer:List Env) (s:Shared) (H:Hp) (vs:List V) (Q:VK) (E:XK),Room k (A.deeper (envOfC qual (A4 st) s.heap.objs.size f (.ref c)))->sp vs H Q E ->
   ∃ t,PSs (Ze CX0 P w K mg base N qual (A4 st) f (.ref c) A outer s H E).nox (Af st) t/\t { nx:=fun _ H'=>Q .non H',rt:=Q } (start N vs) H):FnOk P w K mg base CX0 (k+1) f fd ps sp:=by
 obtain⟨oc,od,kV,doc,pm,an,cdv,ct,osl,rfl,lk,hcd⟩:=F.ex
 obtain rfl:cdv = .ref c:=hc
 refine a84 lk hcd S len fun A outer s H vs Q E hr hsp=>?_
 obtain⟨t,h,q⟩:=hbody A outer s H vs Q E hr hsp
 exact⟨t,h.nox,q⟩
structure am0 (K:PySem.W.Frag)(mg:Str->Option Value)(base:Heap)(c P:Addr):Prop where
 hd:PySem.W.CodeHd base c P
 bi:base.BuiltinsAt mg P
 gP:mainGlobals≠P
theorem LamT.of {P:Addr}{line col:Nat}{qual:Str}{H H':Hp}(h:LamT P line col qual H)(e:∀ b,(∃ ps,H b=some (.tbl ps))\/(∃ φ,H b=some (.ext φ))->∀ o,H b=some o->H' b=some o):LamT P line col qual H':=by
 rcases h with h | ⟨c',h1,h2⟩
 . exact .inl (e P (.inl ⟨_,h⟩) _ h)
 exact .inr ⟨c',e P (.inl ⟨_,h1⟩) _ h1,e c' (.inr ⟨_,h2⟩) _ h2⟩
theorem LamT.same {P:Addr}{line col:Nat}{qual:Str}{H H':Hp}(h:LamT P line col qual H)(e:Same H H'):LamT P line col qual H':=h.of fun b _ o q=>e b o q
theorem LamT.but {P d:Addr}{line col:Nat}{qual:Str}{H H':Hp}{u:HO}(h:LamT P line col qual H)(e:ExtBut d H H')(hd:H d=some u)(h1:∀ ps,u ≠ .tbl ps)(h2:∀ φ,u ≠ .ext φ):LamT P line col qual H':=h.of fun b hb o q=>e b o (fun z=>by
 subst z
 rw[hd] at hb
 rcases hb with ⟨ps,hb⟩ | ⟨φ,hb⟩
 . exact h1 ps (Option.some.inj hb)
 exact h2 φ (Option.some.inj hb)) q
section
variable {X:Cx}{K:PySem.W.Frag}
def Z0 (K:PySem.W.Frag):List V->Hp->VK->Prop:=fun xs H Q=>∃ b m n,xs=[.ref b]/\SqT K H b [.int m,.int n]/\Q (.int (if n<m then n else m)) H
theorem T4 (hc:X.calm=true):CallR X (.builtin "min") (Z0 X.K):=by
 intro pins s σ H xs us Q I r h
 obtain⟨b,m,n,rfl,hS,q⟩:=h
 obtain⟨u,rfl,rv⟩:=Gi r
 cases rv
 obtain⟨its,rw',pl,_⟩:=I.tuple hS
 obtain⟨z1,z2,rfl,⟨t1,rfl⟩,⟨t2,rfl⟩⟩:=Vals.two rw'
 exact Pk (I.ok.hd hc) pl fun u h' tk k=>⟨.int (if n<m then n else m),H,I.kept k,⟨_,rfl⟩,q⟩
theorem K6 (hc:X.calm=true)(hK:X.K=K:=by ac_nf):CallR X (.builtin "min") (Z0 K):=hK ▸ T4 hc
theorem Ym {H:Hp}{Q:VK}{b:Addr}{m n:Int}(h:SqT K H b [.int m,.int n])(k:Q (.int (if n<m then n else m)) H):Z0 K [.ref b] H Q:=⟨b,m,n,rfl,h,k⟩
def a02 (K:PySem.W.Frag):List V->Hp->VK->Prop:=fun xs H Q=>∃ l,∃ ns:List Int,xs=[.ref l]/\SqL K H l (ns.map V.int)/\ns≠[]/\∀ M∈ns,(∀ x∈ns,x<=M)->Q (.int M) H
theorem Vt (hc:X.calm=true):CallR X (.builtin "max") (a02 X.K):=by
 intro pins s σ H xs us Q I r h
 obtain⟨l,ns,rfl,hS,hne,q⟩:=h
 obtain⟨u,rfl,rv⟩:=Gi r
 cases rv
 obtain⟨its,rw',pl,_⟩:=I.list hS
 have hlen:=rw'.length
 rw[List.length_map] at hlen
 have hpos:=List.length_pos_iff.mpr hne
 have hll:l<s.heap.objs.size:=let ⟨_,e,_⟩:=pl.isList;Heap.lt_size e
 have hlI:l≠s.heap.objs.size:=Nat.ne_of_lt hll
 have itm:∀ i v,its.toArray[i]? = some v->∃ t,v=Value.int (ns.getD i 0) t:=fun i v hv=>by
  rw[List.getElem?_toArray] at hv
  have hi:i<ns.length:=by rw[hlen];exact(List.getElem?_eq_some_iff.mp hv).1
  obtain⟨u,hu,ru⟩:=rw'.get (i:=i) (show(ns.map V.int)[i]? = some (V.int (ns.getD i 0)) by rw[List.getElem?_map];simp[List.getD,List.getElem?_eq_getElem hi])
  rw[hv] at hu
  cases hu
  obtain⟨t,rfl⟩:=ru
  exact⟨t,rfl⟩
 refine call_max_walk (wpAny_pyIter_list pl.isList ?_)
 refine⟨_,_,_,_,_,_,_,rfl,Walks.list (A:=X.A.in1) (I.ok.hd hc) s.heap.objs.size l hlI its.toArray,⟨⟨_,Heap.get?_push_size _ rfl,rfl,rfl⟩,pl.isList.push _⟩,fun b hb=>?_,by rw[List.size_toArray];omega,CmpOf.ints_gt (fun i=>ns.getD i 0) itm,fun v h' tk hP hk=>?_⟩
 . show b<(s.heap.push _).objs.size
   rw[Heap.size_push]
   simp only[List.mem_cons,List.not_mem_nil,or_false] at hb
   rcases hb with rfl | rfl
   . exact Nat.lt_succ_self _
   exact Nat.lt_succ_of_lt hll
 obtain⟨t,rfl⟩:=itm _ v hP
 obtain⟨b1,b2⟩:=argBest_gt (fun i=>ns.getD i 0) (its.toArray.size-1)
 rw[List.size_toArray,<- hlen] at b1 b2
 have hk':∀ b o,s.heap.get? b=some o->h'.get? b=some o:=fun b o e=>hk b o (fun z=>by
  have z':b=s.heap.objs.size:=by simpa using z
  have e':=Heap.lt_size e
  rw[z'] at e'
  exact absurd e' (Nat.lt_irrefl _)) (Heap.get?_push_of_some _ e)
 have hai:argBest (fun i j=>decide (ns.getD i 0>ns.getD j 0)) (ns.length-1)<ns.length:=by omega
 refine⟨.int (ns.getD (argBest (fun i j=>decide (ns.getD i 0>ns.getD j 0)) (ns.length-1)) 0),H,I.kept hk',⟨t,by rw[List.size_toArray,<- hlen]⟩,?_⟩
 refine q _ ?_ fun x hx=>?_
 . generalize argBest (fun i j=>decide (ns.getD i 0>ns.getD j 0)) (ns.length-1)=k0 at hai ⊢
   rw[List.getD_eq_getElem?_getD,List.getElem?_eq_getElem hai]
   exact List.getElem_mem hai
 obtain⟨j,hj⟩:=List.mem_iff_getElem?.mp hx
 obtain⟨hj1,hj2⟩:=List.getElem?_eq_some_iff.mp hj
 have:=b2 j (by omega)
 rw[show ns.getD j 0=x by rw[List.getD_eq_getElem?_getD,hj];rfl] at this
 exact this
theorem Ru (hc:X.calm=true)(hK:X.K=K:=by ac_nf):CallR X (.builtin "max") (a02 K):=hK ▸ Vt hc
theorem a99 {H:Hp}{Q:VK}{l:Addr}{ns:List Int}(h:SqL K H l (ns.map V.int))(hne:ns≠[])(k:∀ M∈ns,(∀ x∈ns,x<=M)->Q (.int M) H):a02 K [.ref l] H Q:=⟨l,ns,rfl,h,hne,k⟩
end
def pR (f:Str->Str->Bool):List Str->List (Str×Str)
 | []=>[]
 | x :: xs=>((xs.filter fun y=>f x y).map fun y=>(x,y))++pR f xs
theorem Zw (f:Str->Str->Bool):∀ ns:List Str,((List.range ns.length).flatMap fun i=>((ns.drop (i+1)).filter fun y=>f (ns.getD i "") y).map fun y=>(ns.getD i "",y))=pR f ns
 | []=>rfl
 | x :: xs=>by
   rw[List.length_cons,List.range_succ_eq_map,List.flatMap_cons,List.flatMap_map]
   show _=_++pR f xs
   rw[<- Zw f xs]
   rfl
theorem Yr (ns:List Str)(ps:List (Str×Str)):unP ns ps=pR (unB ps) ns:=Zw _ _
theorem mem_pR {f:Str->Str->Bool}{p:Str×Str}:∀ {ns:List Str},p∈pR f ns↔[p.1,p.2].Sublist ns/\f p.1 p.2=true
 | []=>by
   constructor
   . intro h;cases h
   rintro⟨h,_⟩;cases h
 | x :: xs=>by
   show p∈_++_↔_
   rw[List.mem_append,mem_pR (ns:=xs),List.sublist_cons_iff,List.mem_map]
   constructor
   . rintro(⟨y,hy,rfl⟩ | ⟨h1,h2⟩)
     . obtain⟨h1,h2⟩:=List.mem_filter.mp hy
       exact⟨.inr ⟨[y],rfl,List.singleton_sublist.mpr h1⟩,h2⟩
     exact⟨.inl h1,h2⟩
   rintro⟨h | ⟨r,e,h⟩,h2⟩
   . exact .inr ⟨h,h2⟩
   left
   cases e
   exact⟨p.2,List.mem_filter.mpr ⟨List.singleton_sublist.mp h,h2⟩,rfl⟩
theorem Xm {f:Str->Str->Bool}:∀ {ns:List Str},ns.Nodup->(pR f ns).Nodup
 | [],_=>.nil
 | x :: xs,hn=>by
   obtain⟨h1,h2⟩:=List.nodup_cons.mp hn
   show(_++_:List _).Nodup
   refine List.nodup_append.mpr ⟨?_,Xm h2,fun a ha b hb e=>?_⟩
   . exact List.Pairwise.map _ (fun a b h z=>h (by injection z)) (h2.sublist List.filter_sublist)
   subst e
   obtain⟨y,_,rfl⟩:=List.mem_map.mp ha
   exact h1 ((mem_pR.mp hb).1.subset (List.mem_cons_self ..))
theorem Y0 (ns:List Str)(A:Str->Str->Nat):quK ns A ns.length=(pR (fun x y=>decide (A x y≠0/\A y x≠0)) ns).map fun p=>qsD p (A p.1 p.2) (A p.2 p.1):=by
 rw[<- Zw,List.map_flatMap]
 unfold quK
 rw[List.flatMap_def,List.flatMap_def]
 congr 1
 refine List.map_congr_left fun i hi=>?_
 unfold quR
 rw[List.take_of_length_le (by rw[List.length_drop];omega),List.map_map]
 rfl
theorem Rs {g:Str->Bool}{x y:Str}{ns:List Str}:[x,y].Sublist (ns.filter g)↔[x,y].Sublist ns/\g x=true/\g y=true:=by
 constructor
 . intro h
   have hx:=h.subset (List.mem_cons_self ..)
   have hy:=h.subset (List.mem_cons_of_mem _ (List.mem_cons_self ..))
   exact⟨h.trans List.filter_sublist,(List.mem_filter.mp hx).2,(List.mem_filter.mp hy).2⟩
 rintro⟨h,h1,h2⟩
 have:=h.filter g
 rwa[List.filter_cons,if_pos h1,List.filter_cons,if_pos h2,List.filter_nil] at this
theorem af4 {x y:Str}{ns:List Str}(hn:ns.Nodup)(h:[x,y].Sublist ns):x∈ns/\y∈ns/\x≠y:=by
 have:=hn.sublist h
 refine⟨h.subset (List.mem_cons_self ..),h.subset (List.mem_cons_of_mem _ (List.mem_cons_self ..)),fun z=>?_⟩
 rw[z] at this
 simp at this
def pPt (ns X:List Str)(pX:List (Str×Str)):List (Str×Str):=pR (fun x y=>decide (Ep (ext (Ae pX) X.length X) x y≠0/\Ep (ext (Ae pX) X.length X) y x≠0)) (ns.filter fun z=>decide (z∈X))
section
variable {ns A B:List Str}{pA pB S:List (Str×Str)}
theorem mem_pPt {X:List Str}{pX:List (Str×Str)}{p:Str×Str}:p∈pPt ns X pX↔[p.1,p.2].Sublist ns/\p.1∈X/\p.2∈X/\Ep (ext (Ae pX) X.length X) p.1 p.2≠0/\Ep (ext (Ae pX) X.length X) p.2 p.1≠0:=by
 unfold pPt
 rw[mem_pR,Rs,decide_eq_true_iff,decide_eq_true_iff,decide_eq_true_iff]
 constructor
 . rintro⟨⟨a,b,c⟩,d⟩
   exact⟨a,b,c,d⟩
 rintro⟨a,b,c,d⟩
 exact⟨⟨a,b,c⟩,d⟩
theorem Two.perm (h:Two ns A B pA pB S):(pPt ns A pA++pPt ns B pB).Perm (unP ns S):=by
 have hn:=h.nm.1
 have cA:L2.cnt (Ae pA) A≠0:=by
  have:=Lr (b:=Ae pA) (Pq h.hA) Oe A.length A rfl h.hA.nd
  omega
 have cB:L2.cnt (Ae pB) B≠0:=by
  have:=Lr (b:=Ae pB) (Pq h.hB) Oe B.length B rfl h.hB.nd
  omega
 have tA:∀ x y,x∈A->y∈A->twN A B pA pB x y=Ep (ext (Ae pA) A.length A) x y*L2.cnt (Ae pB) B:=fun x y hx hy=>by unfold twN;rw[if_pos ⟨hx,hy⟩]
 have tB:∀ x y,x∈B->y∈B->twN A B pA pB x y=Ep (ext (Ae pB) B.length B) x y*L2.cnt (Ae pA) A:=fun x y hx hy=>by unfold twN;rw[if_neg (fun q=>h.dj x q.1 hx),if_pos ⟨hx,hy⟩]
 have key:∀ p:Str×Str,[p.1,p.2].Sublist ns->(unB S p.1 p.2=true↔(p.1∈A/\p.2∈A/\Ep (ext (Ae pA) A.length A) p.1 p.2≠0/\Ep (ext (Ae pA) A.length A) p.2 p.1≠0)\/(p.1∈B/\p.2∈B/\Ep (ext (Ae pB) B.length B) p.1 p.2≠0/\Ep (ext (Ae pB) B.length B) p.2 p.1≠0)):=fun p hs=>by
  obtain⟨hx,hy,hxy⟩:=af4 hn hs
  have nz:∀ {a c:Nat},c≠0->(a*c≠0↔a≠0):=fun {a c} hc=>⟨fun q z=>q (by rw[z,Nat.zero_mul]),fun q=>Nat.mul_ne_zero q hc⟩
  have inA:∀ z∈ns,z∈A\/z∈B:=fun z hz=>List.mem_append.mp (h.pm.mem_iff.mpr hz)
  rw[<- Sx h.half hx hy hxy]
  constructor
  . intro q
    have hun:=(Sx h.half hx hy hxy).mp q
    rcases inA _ hx with ax | bx
    . rcases inA _ hy with ay | by'
      . left
        rw[<- h.cnt (.inl ⟨ax,ay⟩),<- h.cnt (.inl ⟨ay,ax⟩),tA _ _ ax ay,tA _ _ ay ax,nz cB,nz cB] at q
        exact⟨ax,ay,q⟩
      have:=wayB_iff.mpr (h.way.mpr (.inr (.inr ⟨ax,by'⟩)))
      unfold unB at hun
      rw[this] at hun
      cases hun
    rcases inA _ hy with ay | by'
    . have:=wayB_iff.mpr (h.way.mpr (.inr (.inr ⟨ay,bx⟩)))
      unfold unB at hun
      rw[this,Bool.and_comm] at hun
      cases hun
    right
    rw[<- h.cnt (.inr ⟨bx,by'⟩),<- h.cnt (.inr ⟨by',bx⟩),tB _ _ bx by',tB _ _ by' bx,nz cA,nz cA] at q
    exact⟨bx,by',q⟩
  rintro(⟨ax,ay,q⟩ | ⟨bx,by',q⟩)
  . rw[<- h.cnt (.inl ⟨ax,ay⟩),<- h.cnt (.inl ⟨ay,ax⟩),tA _ _ ax ay,tA _ _ ay ax,nz cB,nz cB]
    exact q
  rw[<- h.cnt (.inr ⟨bx,by'⟩),<- h.cnt (.inr ⟨by',bx⟩),tB _ _ bx by',tB _ _ by' bx,nz cA,nz cA]
  exact q
 refine(List.perm_ext_iff_of_nodup (List.nodup_append.mpr ⟨Xm (hn.sublist List.filter_sublist),Xm (hn.sublist List.filter_sublist),fun a ha b hb e=>?_⟩) (by rw[Yr];exact Xm hn)).mpr fun p=>?_
 . subst e
   exact h.dj _ (mem_pPt.mp ha).2.1 (mem_pPt.mp hb).2.1
 rw[List.mem_append]
 show(p∈pPt ns A pA\/p∈pPt ns B pB)↔_
 rw[mem_pPt,mem_pPt,Yr,mem_pR]
 constructor
 . rintro(⟨a,b⟩ | ⟨a,b⟩)
   . exact⟨a,(key p a).mpr (.inl b)⟩
   exact⟨a,(key p a).mpr (.inr b)⟩
 rintro⟨a,b⟩
 rcases(key p a).mp b with q | q
 . exact .inl ⟨a,q⟩
 exact .inr ⟨a,q⟩
end
end L2
namespace K61
open PySem L2 PySem.Spec PyProof.Rows
def top (i:Nat):Stmt:=PySem.Challenge.pw_halforder_k61_best_questions.main.body.getD i (.Pass ⟨0,0,0,0⟩)
abbrev Bw:Stmt:=top 1
theorem Bp:Al ["half","names","reach","saying","middle","name"] ["half"] (A4 Bw):=⟨rfl,rfl,rfl,by decide +kernel,rfl,by decide +kernel,by decide +kernel⟩
abbrev Ce:Stmt:=top 2
theorem Lw:Al ["reach","one","other"] ["reach","one","other"] (A4 Ce):=⟨rfl,rfl,rfl,by decide +kernel,rfl,by decide +kernel,by decide +kernel⟩
abbrev Cr:Stmt:=top 3
theorem Dg:Al ["reach","names","pairs","place","one"] ["reach"] (A4 Cr):=⟨rfl,rfl,rfl,by decide +kernel,rfl,by decide +kernel,by decide +kernel⟩
abbrev Fy:Stmt:=top 4
theorem Wk:Al ["half"] ["half"] (A4 Fy):=⟨rfl,rfl,rfl,by decide +kernel,rfl,by decide +kernel,by decide +kernel⟩
abbrev El:Stmt:=top 6
theorem En:Al ["names","bits","bit","name"] ["names"] (A4 El):=⟨rfl,rfl,rfl,by decide +kernel,rfl,by decide +kernel,by decide +kernel⟩
abbrev Ca:Stmt:=top 7
theorem Dm:Al ["half","bits","reach","found","name"] ["half","bits"] (A4 Ca):=⟨rfl,rfl,rfl,by decide +kernel,rfl,by decide +kernel,by decide +kernel⟩
abbrev C7:Stmt:=top 10
theorem Ci:Al ["ways","comings","left","name","rest"] ["ways"] (A4 C7):=⟨rfl,rfl,rfl,by decide +kernel,rfl,by decide +kernel,by decide +kernel⟩
abbrev Cq:Stmt:=top 11
theorem Ba:Al ["half","ways","comings","found","left","name","rest","many","other"] ["half"] (A4 Cq):=⟨rfl,rfl,rfl,by decide +kernel,rfl,by decide +kernel,by decide +kernel⟩
abbrev Cn:Stmt:=top 12
theorem Hv:Al ["half","shares"] ["half"] (A4 Cn):=⟨rfl,rfl,rfl,by decide +kernel,rfl,by decide +kernel,by decide +kernel⟩
abbrev Kb:Stmt:=top 13
theorem Ta:Al ["half","found"] ["half"] (A4 Kb):=⟨rfl,rfl,rfl,by decide +kernel,rfl,by decide +kernel,by decide +kernel⟩
abbrev Co:Stmt:=top 15
theorem Nb:Al ["_law_script"] ["_law_script"] (A4 Co):=⟨rfl,rfl,rfl,by decide +kernel,rfl,by decide +kernel,by decide +kernel⟩
abbrev Cv:Stmt:=top 16
theorem Dd:Al ["_law_feed_here","_law_many","_law_cell","_law_mixed","_law_found"] ["_law_feed_here","_law_many"] (A4 Cv):=⟨rfl,rfl,rfl,by decide +kernel,rfl,by decide +kernel,by decide +kernel⟩
abbrev Cf:Stmt:=top 17
theorem Aj:Al ["_law_feed_here","_law_many","_law_letters","_law_start","_law_way","_law_size","_law_at","_law_names_here","_law_head","_law_tail","_law_turn"] ["_law_feed_here","_law_many"] (A4 Cf):=⟨rfl,rfl,rfl,by decide +kernel,rfl,by decide +kernel,by decide +kernel⟩
abbrev Bg:Stmt:=top 18
theorem C1:Al ["_law_feed_here","_law_some","_law_left","_law_found","_law_k"] ["_law_feed_here","_law_some"] (A4 Bg):=⟨rfl,rfl,rfl,by decide +kernel,rfl,by decide +kernel,by decide +kernel⟩
abbrev Cc:Stmt:=top 19
theorem Am:Al ["_law_feed_here","_law_line","_law_many","_law_way","_law_found","_law_k","_law_at","_law_cut","_law_one"] ["_law_feed_here","_law_line"] (A4 Cc):=⟨rfl,rfl,rfl,by decide +kernel,rfl,by decide +kernel,by decide +kernel⟩
abbrev Bq:Stmt:=top 20
theorem Ch:Al ["_law_feed_here","_law_line","_law_found","_law_pair","_law_turn"] ["_law_feed_here","_law_line"] (A4 Bq):=⟨rfl,rfl,rfl,by decide +kernel,rfl,by decide +kernel,by decide +kernel⟩
abbrev Cp:Stmt:=top 21
theorem Hq:Al ["_law_feed_here","_law_most","_law_names_here"] ["_law_feed_here","_law_most"] (A4 Cp):=⟨rfl,rfl,rfl,by decide +kernel,rfl,by decide +kernel,by decide +kernel⟩
abbrev Bu:Stmt:=top 22
theorem B0:Al ["_law_half_here","_law_rows","_law_k","_law_longer","_law_row","_law_left","_law_later"] ["_law_half_here"] (A4 Bu):=⟨rfl,rfl,rfl,by decide +kernel,rfl,by decide +kernel,by decide +kernel⟩
abbrev C8:Stmt:=top 23
theorem Gq:Al ["_law_orders_here","_law_one","_law_other","_law_ahead"] ["_law_orders_here","_law_one","_law_other"] (A4 C8):=⟨rfl,rfl,rfl,by decide +kernel,rfl,by decide +kernel,by decide +kernel⟩
abbrev B8:Stmt:=top 24
theorem B2:Al ["_law_names_here","_law_orders_here","_law_found","_law_k","_law_other","_law_ahead","_law_hind"] ["_law_names_here","_law_orders_here"] (A4 B8):=⟨rfl,rfl,rfl,by decide +kernel,rfl,by decide +kernel,by decide +kernel⟩
abbrev Ds:Stmt:=top 25
theorem B3:Al ["_law_feed_here","_law_names_here","_law_line","_law_cut","_law_sayings_here","_law_parts_here","_law_some","_law_pairs_here","_law_one"] ["_law_feed_here"] (A4 Ds):=⟨rfl,rfl,rfl,by decide +kernel,rfl,by decide +kernel,by decide +kernel⟩
abbrev C5:Stmt:=top 26
theorem Fc:Al ["_law_half_here","_law_due","_law_found","_law_most"] ["_law_half_here","_law_due"] (A4 C5):=⟨rfl,rfl,rfl,by decide +kernel,rfl,by decide +kernel,by decide +kernel⟩
abbrev C6:Stmt:=top 27
theorem Lp:Al ["_law_asked","_law_many"] ["_law_asked","_law_many"] (A4 C6):=⟨rfl,rfl,rfl,by decide +kernel,rfl,by decide +kernel,by decide +kernel⟩
abbrev Kn:Stmt:=top 28
theorem Ge:Al ["_law_script","_law_feed_here","_law_halves","_law_half_here","_law_parts_here","_law_due","_law_j","_law_some"] ["_law_script"] (A4 Kn):=⟨rfl,rfl,rfl,by decide +kernel,rfl,by decide +kernel,by decide +kernel⟩
abbrev Cs:Stmt:=Ob (top 8) 0
theorem Mi:Al ["self","half"] ["self","half"] (A4 Cs):=⟨rfl,rfl,rfl,by decide +kernel,rfl,by decide +kernel,by decide +kernel⟩
abbrev B1:Stmt:=Ob (top 8) 1
theorem Ha:Al ["self","left"] ["self","left"] (A4 B1):=⟨rfl,rfl,rfl,by decide +kernel,rfl,by decide +kernel,by decide +kernel⟩
abbrev Bd:Stmt:=Ob (top 8) 2
theorem J3:Al ["self","left"] ["self","left"] (A4 Bd):=⟨rfl,rfl,rfl,by decide +kernel,rfl,by decide +kernel,by decide +kernel⟩
structure Hc (mg:Str->Option Value):Prop where
 b_dict:mg "dict" = none
 b_enumerate:mg "enumerate" = none
 b_int:mg "int" = none
 b_len:mg "len" = none
 b_list:mg "list" = none
 b_max:mg "max" = none
 b_min:mg "min" = none
 b_range:mg "range" = none
 b_repr:mg "repr" = none
 b_reversed:mg "reversed" = none
 b_sum:mg "sum" = none
 b_tuple:mg "tuple" = none
structure Ew (K:PySem.W.Frag)(C:Addr):Prop where
 cl:Cls K C
 n_names:NoAttr K C "names"
 n_bits:NoAttr K C "bits"
 n_ahead:NoAttr K C "ahead"
 n_full:NoAttr K C "full"
 n_known:NoAttr K C "known"
section
variable {P:Program}{w:World}{K:PySem.W.Frag}{mg:Str->Option Value}{base:Heap}
local macro_rules | `(tactic| walk_at "lk") => L2.mRows "as | Same.lk e h: e=as h=lk | ExtBut.lk e h n: e=as n=ne h=lk | no"
local macro_rules | `(tactic| walk_at "ne") => L2.mRows "as | Ne.symm q: q=as | ne_of_none h g: g=as h=lk | ne_none2 h g: g=as h=lk | ne_of h g z: h=as g=as z=nc | no"
local macro_rules | `(tactic| walk_at "nc") => `(tactic| (intro z; cases z))
local macro_rules | `(tactic| walk_at "fr") => L2.mRows "ExtBut.refl | ExtBut.trans a b: b=as a=fr | ExtBut.same a b: b=as a=fr | ExtBut.off a q b: b=as q=as a=fr | no"
local macro_rules | `(tactic| walk_at "sm") => L2.mRows "same_refl | Same.trans a b: b=as a=sm | Same.off a q b: b=as q=as a=sm | no"
local macro_rules | `(tactic| walk_at "fd") => L2.mRows "as | Feed.same h e: e=as h=fd | Feed.off h e q f: e=as q=as f=as h=fd | no"
local macro_rules | `(tactic| walk_at "fz1") => L2.mRows "Same.fz b: b=as | ExtBut.fzL b l: b=as l=lk | ExtBut.fzD b l: b=as l=lk | Feed.fz f b: b=as f=fd | no"
local macro_rules | `(tactic| walk_at "fz") => L2.mRows "fz_refl | Fz.trans a x: x=fz1 a=fz | no"
local macro_rules | `(tactic| walk_at "sd") => `(tactic| first | omega | (show (0 : Int) < _; omega) | (unfold aj6; omega) | (unfold CMul; omega) | (unfold al4; omega) | (unfold al4; decide) | (refine ⟨?_, ?_⟩ <;> omega) | decide)
local macro_rules | `(tactic| walk_at "sz") => `(tactic| first | decide | exact Ac (by omega) | (rw [sizeLine_eq]; omega))
local macro_rules | `(tactic| walk_at "kv") => `(tactic| rfl)
local macro_rules | `(tactic| walk_at "rq1") => do
 let a <- L2.mAlts "i_asg i_gname i_ret i_drop i_if i_op i_un i_call i_cb i_cons i_nil i_c i_put i_tTest i_tB i_not i_and i_or i_tup i_lst i_next i_sl i_noPart i_part i_int i_for i_rng1 i_rng2 i_comp i_itS i_iany i_ienum i_ienumL i_irev i_chain i_andV i_orV i_notV i_dget1 i_tAt i_sSt i_tMe i_tMk i_tTru i_dget2 i_iDT i_bmT i_rU i_rI0 i_addI i_bl i_bm i_bm0 i_reprKB i_isN i_isNotN i_isB i_isNotB i_true i_tyS i_find i_intB i_inS i_pair i_pair0 iteR iteNR iteNbb itebb iteT iteF iteNT iteNF"
 let b <- L2.mRows "i_var w _: w=kv | i_rI w _: w=sd | i_mulBI w _: w=sd | i_tyLm w _: w=lk | i_ixD w v _: w=lk v=kv | i_eqS w _: w=kv | i_neS w _: w=kv | i_slS w _: w=sz | i_addS w _: w=sz | i_lenS w _: w=sz | i_lenL w _: w=lk | i_lenT w _: w=lk | i_cutN w _: w=ar"
 let c <- L2.mAltG "i_seqAG i_seqDG i_seqPG"
 `(tactic| first | $c:tactic | $a:tactic | $b:tactic)
local macro_rules | `(tactic| walk_at "rd1") => `(tactic| first | with_reducible refine aa7 fun N hN => ?_ | walk_at "rq1")
local macro_rules | `(tactic| walk_at "rq") => `(tactic| repeat (walk_at "rq1"))
local macro_rules | `(tactic| walk_at "rd") => `(tactic| repeat (walk_at "rd1"))
def Dj (l:Addr)(a t u:Int):List (Key×V):=[(Sum.inr "cells",.ref l),(Sum.inr "at",.int a),(Sum.inr "left",.int t),(Sum.inr "turn",.int u)]
def Feed (H:Hp)(d l:Addr):Prop:=∃(a t u:Int) (ns:List Int),H d=some (.dK (Dj l a t u))/\H l=some (.lst (ns.map V.int))/\0<ns.length/\ns.length<=64
def Fj (K:PySem.W.Frag):Sp:=fun vs H Q _=>∃(a:Addr) (ns:List Int),vs=[.ref a]/\SqL K H a (ns.map V.int)/\ns.length<=63/\∀ d l H',H d=none->H l=none->Same H H'->Feed H' d l->Q (.ref d) H'
def Bl (K:PySem.W.Frag):Sp:=fun vs H Q _=>∃ d l n,vs=[.ref d,.int n]/\Feed H d l/\0<n/\n<1073741824/\∀ r H',0<=r->r<n->ExtBut d H H'->Feed H' d l->Q (.int r) H'
theorem Xh {l:Addr}{a t u:Int}:Cg (Dj l a t u) (Sum.inr "cells":Key)=some (.ref l):=by rfl
theorem aj7 {l:Addr}{a t u:Int}:Cg (Dj l a t u) (Sum.inr "at":Key)=some (.int a):=by rfl
theorem Zn {l:Addr}{a t u:Int}:Cg (Dj l a t u) (Sum.inr "left":Key)=some (.int t):=by rfl
theorem Zp {l:Addr}{a t u:Int}:Cg (Dj l a t u) (Sum.inr "turn":Key)=some (.int u):=by rfl
local macro_rules | `(tactic| walk_at "kv") => `(tactic| first | exact Xh | exact aj7 | exact Zn | exact Zp | rfl)
theorem X0 {l:Addr}{a t u x:Int}:Dv (Dj l a t u) (Sum.inr "turn":Key) (.int x)=Dj l a t x:=by rfl
theorem a64 {l:Addr}{a t u x:Int}:Dv (Dj l a t u) (Sum.inr "at":Key) (.int x)=Dj l x t u:=by rfl
theorem Lh {l:Addr}{a t u x:Int}:Dv (Dj l a t u) (Sum.inr "left":Key) (.int x)=Dj l a x u:=by rfl
theorem Feed.same {H H':Hp}{d l:Addr}(h:Feed H d l)(e:Same H H'):Feed H' d l:=let ⟨a,t,u,ns,h1,h2,h3,h4⟩:=h;⟨a,t,u,ns,e _ _ h1,e _ _ h2,h3,h4⟩
theorem Feed.put {H H':Hp}{d l p:Addr}(h:Feed H d l)(e:ExtBut p H H')(hd:d≠p)(hl:l≠p):Feed H' d l:=let ⟨a,t,u,ns,h1,h2,h3,h4⟩:=h;⟨a,t,u,ns,e _ _ hd h1,e _ _ hl h2,h3,h4⟩
theorem Feed.nd {H:Hp}{d l p:Addr}(h:Feed H d l)(hp:H p=none):d≠p:=let ⟨_,_,_,_,h1,_⟩:=h;ne_of_none h1 hp
theorem Feed.nl {H:Hp}{d l p:Addr}(h:Feed H d l)(hp:H p=none):l≠p:=let ⟨_,_,_,_,_,h2,_⟩:=h;ne_of_none h2 hp
theorem Feed.lst {H:Hp} {d l b:Addr} {xs:List V} (h:Feed H d l) (hb:H b=some (.lst xs)):b≠d:=let ⟨_,_,_,_,h1,_⟩:=h;ne_of hb h1 (by intro z;cases z)
theorem Feed.free {H H':Hp}{d l p:Addr}(h:Feed H' d l)(e:ExtBut d H H')(hp:H' p=none):H p=none:=by
 cases hq:H p with
 | none=>rfl
 | some o=>
   obtain⟨_,_,_,_,h1,_⟩:=h
   have n:p≠d:=fun q=>by subst q;rw[hp] at h1;cases h1
   rw[e p o n hq] at hp
   cases hp
theorem Feed.fz {H H':Hp}{d l:Addr}(h:Feed H d l)(e:ExtBut d H H'):Fz H H':=let ⟨_,_,_,_,h1,_⟩:=h;e.fzD h1
theorem Feed.off {H H1 H2:Hp}{d l q:Addr}(h:Feed H1 d l)(e:ExtBut q H1 H2)(hq:H q=none)(hF:Feed H d l):Feed H2 d l:=h.put e (hF.nd hq) (hF.nl hq)
theorem Mf {f:Addr}{fd:FuncData}(F:Fun K "_law_draw" "_law_draw" Cv f fd)(T:Hc mg):FnOk P w K mg base CX0 1 f fd ["_law_feed_here","_law_many"] (Bl K):=by
 refine F.ok Dd (fun vs H Q E h=>?_) (fun cdv A outer s H vs Q E hr h=>?_)
 . obtain⟨d,l,n,rfl,_⟩:=h
   rfl
 obtain⟨d,l,n,rfl,⟨a,t,u,ns,hd,hl,h0,h64⟩,hn,hn2,k⟩:=h
 have hu:=Cm hr
 have hq:=Cu hr
 have hld:l≠d:=ne_of hl hd (by intro z;cases z)
 with_reducible refine⟨_,(A3 (Eg hu (pv 0) Bb (Ag (Ad (K:=K)) (Ah (A6 (K:=K) hu) (pv 0) Bb (by ac_rfl)) A5) (by ac_nf))
  (A3 (G8 (Ar (Fs (K:=K) hq) (Ah (A6 (K:=K) hu) (pv 0) Bb (by ac_rfl)) A5 (Bx _)) (A3 (Ab (i:=2) Dd.nd (by ac_nf) (by eq_refl) (Ah (A6 (K:=K) hu) (Ah (A6 (K:=K) hu) (pv 0) Bb (by ac_rfl)) (Ag Hx (Ah (A6 (K:=K) hu) (pv 0) Bb (by ac_rfl)) (An (Bk (K:=K)) (by ac_nf) T.b_len PyProof.Rows.Boot.«len» (A1 (Ah (A6 (K:=K) hu) (pv 0) Bb (by ac_rfl)) A2))) (by ac_rfl)))
  (A3 (Eg hu (pv 0) Bb (Ag (Ad (K:=K)) (Ah (A6 (K:=K) hu) (pv 0) Bb (by ac_rfl)) A5) (by ac_nf))
  (A3 (G8 (Ar a48 (pv 2) (Ag ab5 A5 A5) (Bx _)) (A3 (Ab (i:=3) Dd.nd (by ac_nf) (by eq_refl) (Ag Hx (Ag Ct (Ag (Ad (K:=K)) (Ag Hx (pv 2) A5) (Ag Ct A5 (Ah (A6 (K:=K) hu) (pv 0) Bb (by ac_rfl)))) A5) A5))
  (A3 (Ab (i:=3) Dd.nd (by ac_nf) (by eq_refl) (Ag Hx (Ag Ct (Ag (Ad (K:=K)) (Ag Ij (pv 3) A5) (Ag Ct A5 (Ah (A6 (K:=K) hu) (pv 0) Bb (by ac_rfl)))) A5) A5))
  (A7 (B6 (Ag Hx (Ag Ij (pv 3) A5) (pv 1)))))) By)
  (A7 (Eg hu (pv 0) Bb (pv 2) (by ac_nf)))))) By)
  (A3 (Ab (i:=4) Dd.nd (by ac_nf) (by eq_refl) (Ag Hx (Ah (A6 (K:=K) hu) (pv 0) Bb (by ac_rfl)) (pv 1)))
  (A3 (Eg hu (pv 0) Bb (Ag Ij (Ah (A6 (K:=K) hu) (pv 0) Bb (by ac_rfl)) (pv 1)) (by ac_nf))
  (A7 (B6 (pv 4))))))),?_⟩
 walk_at "rd"
 refine Gv hd (by show 4<1000;decide) fun H1 e1 hd1=>?_
 rw[X0] at hd1
 have hl1:H1 l=some (.lst (ns.map V.int)):=e1 _ _ hld hl
 walk_at "rd"
 refine an9 (fun ht=>?_) (fun ht=>?_)
 . walk_at "rd"
   have hlen:(0:Int)<((ns.map V.int).length:Nat):=by rw[List.length_map];omega
   refine i_rI hlen ?_
   have hm0:0<=a % (((ns.map V.int).length:Nat):Int):=Int.emod_nonneg _ (by omega)
   have hm1:=Int.emod_lt_of_pos a hlen
   obtain⟨c,hc⟩:∃ c,(ns.map V.int)[(a % (((ns.map V.int).length:Nat):Int)).toNat]? = some (V.int c):=by
    refine⟨ns[(a % (((ns.map V.int).length:Nat):Int)).toNat]'(by rw[List.length_map] at *;omega),?_⟩
    rw[List.getElem?_map,List.getElem?_eq_getElem]
    rfl
   refine Ib hl1 (by
    have:=Bj hc
    rwa[Int.toNat_of_nonneg hm0] at this) ?_
   walk_at "rd"
   refine Gv hd1 (by show 4<1000;decide) fun H2 e2 hd2=>?_
   rw[a64] at hd2
   have hl2:H2 l=some (.lst (ns.map V.int)):=e2 _ _ hld hl1
   walk_at "rd"
   refine an9 (fun hc1=>?_) (fun hc1=>?_)
   . walk_at "rd"
     exact k _ H2 (Int.emod_nonneg _ (by omega)) (Int.emod_lt_of_pos _ hn) (e1.trans e2) ⟨_,_,_,ns,hd2,hl2,h0,h64⟩
   walk_at "rd"
   refine Gv hd2 (by show 4<1000;decide) fun H3 e3 hd3=>?_
   rw[Lh] at hd3
   have hl3:H3 l=some (.lst (ns.map V.int)):=e3 _ _ hld hl2
   walk_at "rd"
   refine Gv hd3 (by show 4<1000;decide) fun H4 e4 hd4=>?_
   rw[Lh] at hd4
   have hl4:H4 l=some (.lst (ns.map V.int)):=e4 _ _ hld hl3
   walk_at "rd"
   exact k _ H4 (Int.emod_nonneg _ (by omega)) (Int.emod_lt_of_pos _ hn) (((e1.trans e2).trans e3).trans e4) ⟨_,_,_,ns,hd4,hl4,h0,h64⟩
 walk_at "rd"
 refine Gv hd1 (by show 4<1000;decide) fun H2 e2 hd2=>?_
 rw[Lh] at hd2
 have hl2:H2 l=some (.lst (ns.map V.int)):=e2 _ _ hld hl1
 walk_at "rd"
 exact k _ H2 (Int.emod_nonneg _ (by omega)) (Int.emod_lt_of_pos _ hn) (e1.trans e2) ⟨_,_,_,ns,hd2,hl2,h0,h64⟩
theorem W9 (ns:List Int)(h:ns.length<=63):∃ ms:List Int,K8 (ns.map V.int) none (some 63)++(List.replicate (if(PyData.list (ns.map PyData.int)).eqv (PyData.list (([]:List Int).map PyData.int))=true then(1:Int) else 0).toNat [V.int 0]).flatten=ms.map V.int/\0<ms.length/\ms.length<=64:=by
 have hc:K8 (ns.map V.int) none (some 63)=ns.map V.int:=by
  unfold K8
  have e:HT.sIx (ns.map V.int).length (ns.map V.int).length (some 63)=(ns.map V.int).length:=by
   have:=HT.sIx_nat (ns.map V.int).length (ns.map V.int).length 63
   rw[List.length_map] at *
   rw[show((63:Nat):Int)=(63:Int) from rfl] at this
   rw[this]
   omega
  rw[HT.sIx_none,e,List.drop_zero,Nat.sub_zero,List.take_length]
 rw[hc]
 cases ns with
 | nil=>exact⟨[0],by simp[PyData.eqv,PyData.eqvAll],by decide,by decide⟩
 | cons n r=>exact⟨n :: r,by simp[PyData.eqv,PyData.eqvAll],by simp,by omega⟩
theorem Nm {f:Addr}{fd:FuncData}(F:Fun K "_law_feed" "_law_feed" Co f fd)(T:Hc mg):FnOk P w K mg base CX0 1 f fd ["_law_script"] (Fj K):=by
 refine F.ok Nb (fun vs H Q E h=>?_) (fun cdv A outer s H vs Q E hr h=>?_)
 . obtain⟨a,ns,rfl,_⟩:=h
   rfl
 obtain⟨a,ns,rfl,hS,h63,k⟩:=h
 have hu:=Cm hr
 have hq:=Cu hr
 with_reducible refine⟨_,(A7 (B6 (Ov (G3 Bb (Ag (Ad (K:=K)) (Au (Hg (K:=K)) (by ac_nf) T.b_list PyProof.Rows.Boot.«list» (A1 (Ay (Le (K:=K)) (pv 0) C3 (B4 A5)) A2)) (Ag Ct (Cd (A1 A5 A2)) (Au Nr (by ac_nf) T.b_int PyProof.Rows.Boot.«int» (A1 (Hn (Fs (K:=K) hq) (pv 0) (Cd A2) (Bx _)) A2)))) (G3 Bb A5 (G3 Bb A5 (G3 Bb A5 Oq)))) (by ac_nf) (by ac_nf) (by decide) (by decide)))),?_⟩
 walk_at "rd"
 refine Tv fun p H1 hp e1 hp1=>?_
 walk_at "rd"
 have hS1:=e1.seq hS
 refine Gj hS1 fun q H2 hq2 e2 hq2'=>?_
 walk_at "rd"
 refine a04 (SqL.of hq2') fun r H3 hr3 e3 hr3'=>?_
 walk_at "rd"
 refine Cb (by decide) fun z H4 hz4 e4 hz4'=>?_
 walk_at "rd"
 refine Cb (by decide) fun y H5 hy5 e5 hy5'=>?_
 refine ak6 (Qy (e5.seq (e4.seq (e3.seq (e2.seq hS1))))) (Qy (ns:=[]) (SqL.of hy5')) (PySem.W.ke_shaped_ints ns) (PySem.W.ke_shaped_ints []) ?_
 walk_at "rd"
 refine a06 (xs:=[V.int 0]) (by walk_at "lk") ?_ ?_ fun x H6 hx6 e6 hx6'=>?_
 . split<;>omega
 . split<;>decide
 refine Jg (xs:=K8 (ns.map V.int) none (some 63)) (by walk_at "lk") hx6' ?_ fun v H7 hv7 e7 hv7'=>?_
 . obtain⟨ms,e,h1,h2⟩:=W9 ns h63
   rw[<- List.length_append,e,List.length_map]
   exact Nat.le_trans h2 (by decide)
 walk_at "rd"
 refine Pa [(Sum.inr "cells",.ref v),(Sum.inr "at",.int 0),(Sum.inr "left",.int 0),(Sum.inr "turn",.int 0)] (by walk_at "lk") (by rfl) (by show 4<=15;decide) fun H8 e8 h8=>?_
 have en:H8 p=some (.dK (Dj v 0 0 0)):=h8
 refine k p v H8 hp ?_ ?_ ⟨0,0,0,?_⟩
 . exact e1.free (e2.free (e3.free (e4.free (e5.free (e6.free hv7)))))
 . exact fun b o hb=>e8 b o (ne_of_none hb hp) (e7 _ _ (e6 _ _ (e5 _ _ (e4 _ _ (e3 _ _ (e2 _ _ (e1 _ _ hb)))))))
 obtain⟨ms,e,h1,h2⟩:=W9 ns h63
 rw[e] at hv7'
 exact⟨ms,en,by walk_at "lk",h1,h2⟩
def Do (K:PySem.W.Frag):Sp:=fun vs H Q _=>∃ d l n,vs=[.ref d,.int n]/\Feed H d l/\0<=n/\n<=10/\∀ p ns H',H p=none->ExtBut d H H'->Feed H' d l->H' p=some (.lst (ns.map V.str))->Names ns->ns.length=n.toNat->Q (.ref p) H'
def MN (H:Hp)(d l:Addr)(n st way sz at':Int):L2.St->Hp->Prop:=fun σ' H'=>∃ p ns x8 x9,σ'=[some (V.ref d),some (.int n),some (.str LL),some (.int st),some (.int way),some (.int (1+sz)),some (.int at'),some (.ref p),x8,x9,none]/\H p=none/\ExtBut d H H'/\Feed H' d l/\H' p=some (.lst (ns.map V.str))/\Names ns/\ns.length=10
theorem L7 {f:Addr}{fd:FuncData}(F:Fun K "_law_names" "_law_names" Cf f fd)(T:Hc mg)(c__law_draw:Fnd P w K mg base 1 "_law_draw" ["_law_feed_here","_law_many"] (Bl K)):FnOk P w K mg base CX0 2 f fd ["_law_feed_here","_law_many"] (Do K):=by
 refine F.ok Aj (fun vs H Q E h=>?_) (fun cdv A outer s H vs Q E hr h=>?_)
 . obtain⟨d,l,n,rfl,_⟩:=h
   rfl
 obtain⟨d,l,n,rfl,hF,hn0,hn1,k⟩:=h
 have hu:=Cm hr
 have hq:=Cu hr
 with_reducible refine⟨_,(A3 (Ab (i:=2) Aj.nd (by ac_nf) (by with_unfolding_all exact Or.inr rfl) (Ag Ct Bb A5))
  (A3 (Ab (i:=3) Aj.nd (by ac_nf) (by with_unfolding_all exact Or.inr rfl) (As c__law_draw (hr.mono (by decide)) (by ac_nf) (A1 (pv 0) (A1 A5 A2))))
  (A3 (Ab (i:=4) Aj.nd (by ac_nf) (by eq_refl) (As c__law_draw (hr.mono (by decide)) (by ac_nf) (A1 (pv 0) (A1 A5 A2))))
  (A3 (Ab (i:=5) Aj.nd (by ac_nf) (by eq_refl) (Ag (Ad (K:=K)) A5 (As c__law_draw (hr.mono (by decide)) (by ac_nf) (A1 (pv 0) (A1 A5 A2)))))
  (A3 (Ab (i:=6) Aj.nd (by ac_nf) (by eq_refl) (As c__law_draw (hr.mono (by decide)) (by ac_nf) (A1 (pv 0) (A1 (pv 5) A2))))
  (A3 (Ab (i:=7) Aj.nd (by ac_nf) (by eq_refl) (Cd (A1 Bb (A1 Bb (A1 Bb (A1 Bb (A1 Bb (A1 Bb (A1 Bb (A1 Bb (A1 Bb (A1 Bb A2))))))))))))
  (A3 (G8 (Ar (Fs (K:=K) hq) (pv 4) A5 (Bx _)) (A7 (Ab (i:=7) Aj.nd (by ac_nf) (by eq_refl) (Ag (Ad (K:=K)) (Br ["_law_k"] ["_law_letters","_law_start"] [2,3] (by ac_nf) (by ac_nf) (by ac_nf) (Bz (by ac_nf) T.b_range (A1 A5 A2)) (fun _ _ _ _=>(A8 (i:=0) (by with_unfolding_all (show(["_law_k","_law_letters","_law_start"]:List Str).Nodup;decide +kernel)) (by ac_nf) (by eq_refl))) (B7 (by decide)) (fun _ _ _ _=>Dl) (fun _ _ _ _=>(Ay (Le (K:=K)) (pv 1) (B4 (pv 2)) (B4 (Ag (Ad (K:=K)) (Ag (Ad (K:=K)) (pv 2) A5) (pv 0)))))) (Cd (A1 (Ah (A6 (K:=K) hu) (pv 2) (Ag (Ad (K:=K)) (pv 3) A5) (by ac_rfl)) (A1 (Ah (A6 (K:=K) hu) (pv 2) (Ag (Ad (K:=K)) (pv 3) A5) (by ac_rfl)) A2)))))) By)
  (A3 (G8 (Ar (Fs (K:=K) hq) (pv 4) A5 (Bx _)) (A3 (Ab (i:=8) Aj.nd (by ac_nf) (by with_unfolding_all exact Or.inr rfl) (Ay (Le (K:=K)) (pv 2) (B4 (pv 3)) (B4 (Ag (Ad (K:=K)) (pv 3) (pv 6)))))
  (A3 (Ab (i:=9) Aj.nd (by ac_nf) (by with_unfolding_all exact Or.inr rfl) (Ay (Le (K:=K)) (pv 2) (B4 (Ag (Ad (K:=K)) (Ag (Ad (K:=K)) (pv 3) (pv 6)) A5)) (B4 (Ag (Ad (K:=K)) (pv 3) (pv 5)))))
  (A7 (Dr (i:=7) ["_law_k"] ["_law_head","_law_letters","_law_start","_law_tail"] [8,2,3,9] (by ac_nf) (by ac_nf) (by ac_nf) Aj.nd (by ac_nf) (by ac_nf) (Bz (by ac_nf) T.b_range (A1 A5 A2)) (fun _ _ _ _=>(A8 (i:=0) (by with_unfolding_all (show(["_law_k","_law_head","_law_letters","_law_start","_law_tail"]:List Str).Nodup;decide +kernel)) (by ac_nf) (by eq_refl))) (B7 (by decide)) (fun _ _ _ _=>Dl) (fun _ _ _ _=>(Ag (Ad (K:=K)) (Ag (Ad (K:=K)) (pv 1) (Ah (A6 (K:=K) hu) (pv 2) (Ag (Ad (K:=K)) (pv 3) (Ag Hx (Ag Ct A5 (pv 0)) A5)) (by ac_rfl))) (pv 4))))))) By)
  (A3 (G8 (Ar (Fs (K:=K) hq) (pv 4) A5 (Bx _)) (A7 (Dr (i:=7) ["_law_k"] ["_law_letters","_law_start"] [2,3] (by ac_nf) (by ac_nf) (by ac_nf) Aj.nd (by ac_nf) (by ac_nf) (Bz (by ac_nf) T.b_range (A1 A5 A2)) (fun _ _ _ _=>(A8 (i:=0) (by with_unfolding_all (show(["_law_k","_law_letters","_law_start"]:List Str).Nodup;decide +kernel)) (by ac_nf) (by eq_refl))) (B7 (by decide)) (fun _ _ _ _=>Dl) (fun _ _ _ _=>(Ay (Le (K:=K)) (pv 1) (B4 (Ag (Ad (K:=K)) (pv 2) (pv 0))) (B4 (Ag (Ad (K:=K)) (Ag (Ad (K:=K)) (Ag (Ad (K:=K)) (pv 2) (pv 0)) A5) (Ag Hx (Ag Ct A5 (pv 0)) A5))))))) By)
  (A3 (Ab (i:=10) Aj.nd (by ac_nf) (by eq_refl) (As c__law_draw (hr.mono (by decide)) (by ac_nf) (A1 (pv 0) (A1 A5 A2))))
  (A3 (Ab (i:=7) Aj.nd (by ac_nf) (by eq_refl) (Ag (Ad (K:=K)) (Ay (Le (K:=K)) (pv 7) (B4 (pv 10)) C3) (Ay (Le (K:=K)) (pv 7) C3 (B4 (pv 10)))))
  (A7 (B6 (M1 (Ay (Le (K:=K)) (pv 7) C3 (B4 (pv 1))) (Ah (A6 (K:=K) hu) (Cd (A1 A5 (A1 (al2 a96 A5) A2))) (As c__law_draw (hr.mono (by decide)) (by ac_nf) (A1 (pv 0) (A1 A5 A2))) (by ac_rfl)))))))))))))))),?_⟩
 walk_at "rd"
 refine Zq (by decide) ?_
 rw[a91]
 walk_at "rd"
 refine⟨d,l,_,rfl,hF,by omega,by omega,fun st H1 hs0 hs1 e1 hF1=>?_⟩
 walk_at "rd"
 refine⟨d,l,_,rfl,hF1,by omega,by omega,fun way H2 hw0 hw1 e2 hF2=>?_⟩
 walk_at "rd"
 refine⟨d,l,_,rfl,hF2,by omega,by omega,fun sz H3 hz0 hz1 e3 hF3=>?_⟩
 walk_at "rd"
 refine⟨d,l,_,rfl,hF3,by omega,by omega,fun at' H4 ha0 ha1 e4 hF4=>?_⟩
 walk_at "rd"
 refine Cb (by decide) fun p5 H5 hp5 e5 h5=>?_
 walk_at "rq"
 have fr4:ExtBut d H H4:=by walk_at "fr"
 have hF5:Feed H5 d l:=by walk_at "fd"
 with_reducible refine Om (MN H d l n st way sz at') (fun N hN=>?_) (fun σ1 H6 hM=>?_)
 . walk_at "rq"
   refine Nt (fun hw=>?_) (fun hw=>?_)
   . walk_at "rq"
     refine Gc (by omega) ?_
     refine Kw Bf (fI fun k=>.str (Txt.slice LL (some st) (some (st+1+k)))) (by simp) (fun _ _=>trivial) (fun i x H6 R hx e6 hR=>?_) (fun p6 H6 hp6 e6 h6=>?_)
     . obtain⟨rfl,hi⟩:=Dy hx
       walk_at "rq"
       exact hR
     rw[Nx (G:=fun k=>txt (K3 st.toNat (st.toNat+1+k))) (fun k hk=>by
      have e:=Qo (i:=st) (j:=st+1+(0+(k:Int))) hs0 (by omega) (by have:((8:Int)).toNat=8:=rfl;omega)
      have e2:(st+1+(0+(k:Int))).toNat=st.toNat+1+k:=by omega
      rw[e2] at e
      rw[e])] at h6
     obtain⟨c9,hc9,e9⟩:=a09 (i:=st+9) (by omega) (by omega)
     obtain⟨c10,hc10,e10⟩:=a09 (i:=st+10) (by omega) (by omega)
     walk_at "rq"
     refine a31 Pc hc9 ?_
     walk_at "rq"
     refine a31 Pc hc10 ?_
     walk_at "rq"
     refine Cb (Ac (by simp)) fun p7 H7 hp7 e7 h7=>?_
     refine Jg (by walk_at "lk") h7 (by simp[sizeLine_eq]) fun p8 H8 hp8 e8 h8=>?_
     walk_at "rq"
     have f5:ExtBut d H H5:=by walk_at "fr"
     refine hN _ _ ⟨p8,(nm0 st.toNat).map txt,none,none,rfl,Feed.free (l:=l) (H':=H7) (by walk_at "fd") (by walk_at "fr") hp8,by walk_at "fr",by walk_at "fd",?_,a89 (by omega),by simp[nm0]⟩
     rw[h8,e9,e10]
     have q9:(st+9).toNat=st.toNat+9:=by omega
     have q10:(st+10).toNat=st.toNat+10:=by omega
     rw[q9,q10]
     simp[nm0,Function.comp_def]
   walk_at "rq"
   refine hN _ _ ⟨p5,nm3,none,none,rfl,hF4.free fr4 hp5,by walk_at "fr",hF5,h5,ab3,rfl⟩
 obtain⟨p,ns,x8,x9,rfl,hp,e6,hF6,h6,hN6,hl6⟩:=hM
 with_reducible refine Om (MN H d l n st way sz at') (fun N hN=>?_) (fun σ1 H7 hM=>?_)
 . walk_at "rq"
   refine Nt (fun hw=>?_) (fun hw=>?_)
   . walk_at "rq"
     refine Gc (by omega) ?_
     have c1:=Qo (i:=st) (j:=st+at') hs0 (by omega) (by omega)
     have c2:=Qo (i:=st+at'+1) (j:=st+(1+sz)) (by omega) (by omega) (by omega)
     rw[c1,c2]
     refine Kw Bf (fI fun k=>.str (txt (K3 st.toNat (st+at').toNat)++txt (M0 (st+5*k % 26).toNat)++txt (K3 (st+at'+1).toNat (st+(1+sz)).toNat))) (by simp) (fun _ _=>trivial) (fun i x H8 R hx e8 hR=>?_) (fun p8 H8 hp8 e8 h8=>?_)
     . obtain⟨rfl,hi⟩:=Dy hx
       have hm0:=Int.emod_nonneg (5*(0+(i:Int))) (show(26:Int)≠0 by decide)
       have hm1:=Int.emod_lt_of_pos (5*(0+(i:Int))) (show(0:Int)<26 by decide)
       obtain⟨c,hc,ec⟩:=a09 (i:=st+5*(0+(i:Int)) % 26) (by omega) (by omega)
       walk_at "rq"
       refine a31 Pc hc ?_
       rw[ec]
       have l1:(txt (K3 st.toNat (st+at').toNat)).length<=52:=by show(K3 _ _).toArray.size<=_;unfold K3;simp[Hh];omega
       have l2:(txt (K3 (st+at'+1).toNat (st+(1+sz)).toNat)).length<=52:=by show(K3 _ _).toArray.size<=_;unfold K3;simp[Hh];omega
       have l3:(txt (M0 (st+5*(0+(i:Int)) % 26).toNat)).length<=52:=by show(M0 _).toArray.size<=_;unfold M0;simp[Hh];omega
       refine i_addS (Ac (by omega)) ?_
       have l4:(txt (K3 st.toNat (st+at').toNat)++txt (M0 (st+5*(0+(i:Int)) % 26).toNat)).length<=104:=by rw[Str.length_append];omega
       walk_at "rq"
       exact hR
     rw[Nx (G:=fun k=>txt (K3 st.toNat (st.toNat+at'.toNat)++M0 (st.toNat+5*k % 26)++K3 (st.toNat+at'.toNat+1) (st.toNat+(1+sz).toNat))) (fun k hk=>by
      have q1:(st+at').toNat=st.toNat+at'.toNat:=by omega
      have q2:(st+5*(0+(k:Int)) % 26).toNat=st.toNat+5*k % 26:=by omega
      have q3:(st+at'+1).toNat=st.toNat+at'.toNat+1:=by omega
      have q4:(st+(1+sz)).toNat=st.toNat+(1+sz).toNat:=by omega
      rw[q1,q2,q3,q4,Uw,Uw])] at h8
     walk_at "rq"
     refine hN _ _ ⟨p8,(nm1 st.toNat (1+sz).toNat at'.toNat).map txt,_,_,rfl,hF6.free e6 hp8,by walk_at "fr",by walk_at "fd",?_,a68 (by omega) (by omega) (by omega),by simp[nm1]⟩
     rw[h8]
     simp[nm1,Function.comp_def]
   walk_at "rq"
   exact hN _ _ ⟨p,ns,x8,x9,rfl,hp,e6,hF6,h6,hN6,hl6⟩
 obtain⟨p',ns',x8',x9',rfl,hp',e7,hF7,h7,hN7,hl7⟩:=hM
 with_reducible refine Om (MN H d l n st way sz at') (fun N hN=>?_) (fun σ1 H8 hM=>?_)
 . walk_at "rq"
   refine Nt (fun hw=>?_) (fun hw=>?_)
   . walk_at "rq"
     refine Gc (by omega) ?_
     refine Kw Bf (fI fun k=>.str (Txt.slice LL (some (st+k)) (some (st+k+1+3*k % 8)))) (by simp) (fun _ _=>trivial) (fun i x H8 R hx e8 hR=>?_) (fun p8 H8 hp8 e8 h8=>?_)
     . obtain⟨rfl,hi⟩:=Dy hx
       walk_at "rq"
       exact hR
     rw[Nx (G:=fun k=>txt (K3 (st.toNat+k) (st.toNat+k+1+3*k % 8))) (fun k hk=>by
      have h10:((10:Int)).toNat=10:=rfl
      have e:=Qo (i:=st+(0+(k:Int))) (j:=st+(0+(k:Int))+1+3*(0+(k:Int)) % 8) (by omega) (by omega) (by omega)
      have q1:(st+(0+(k:Int))).toNat=st.toNat+k:=by omega
      have q2:(st+(0+(k:Int))+1+3*(0+(k:Int)) % 8).toNat=st.toNat+k+1+3*k % 8:=by omega
      rw[q1,q2] at e
      rw[e])] at h8
     walk_at "rq"
     refine hN _ _ ⟨p8,(nm2 st.toNat).map txt,_,_,rfl,hF7.free e7 hp8,by walk_at "fr",by walk_at "fd",?_,ab2 (by omega),by simp[nm2]⟩
     rw[h8]
     simp[nm2,Function.comp_def]
   walk_at "rq"
   exact hN _ _ ⟨p',ns',x8',x9',rfl,hp',e7,hF7,h7,hN7,hl7⟩
 obtain⟨p2,ms,y8,y9,rfl,hp2,e8,hF8,h8,hN8,hl8⟩:=hM
 walk_at "rd"
 refine⟨d,l,_,rfl,hF8,by omega,by omega,fun tn H9 ht0 ht1 e9 hF9=>?_⟩
 have nd2:p2≠d:=hF8.lst h8
 walk_at "rd"
 have h9:H9 p2=some (.lst (ms.map V.str)):=e9 _ _ nd2 h8
 refine Gj (SqL.of h9) fun q1 H10 hq1 e10 h10=>?_
 walk_at "rd"
 refine Gj (SqL.of (show H10 p2=some (.lst (ms.map V.str)) by walk_at "lk")) fun q2 H11 hq2 e11 h11=>?_
 walk_at "rd"
 rw[G0 ht0 (by rw[List.length_map];omega)] at h10
 rw[Ed ht0] at h11
 refine Jg (by walk_at "lk") h11 (Ac (by simp;omega)) fun q3 H12 hq3 e12 h12=>?_
 walk_at "rd"
 rw[<- List.map_drop,<- List.map_take,<- List.map_append] at h12
 refine Gj (SqL.of h12) fun q4 H13 hq4 e13 h13=>?_
 walk_at "rd"
 rw[Ed hn0,<- List.map_take] at h13
 refine Cb (by decide) fun q5 H14 hq5 e14 h14=>?_
 walk_at "rd"
 refine⟨d,l,2,rfl,by walk_at "fd",by omega,by omega,fun r H15 hr0 hr1 e15 hF15=>?_⟩
 have hq5d:q5≠d:=Ne.symm (Feed.nd (H:=H13) (l:=l) (by walk_at "fd") hq5)
 have hq4d:q4≠d:=Ne.symm (Feed.nd (H:=H12) (l:=l) (by walk_at "fd") hq4)
 have h15:H15 q4=some (.lst (((ms.drop tn.toNat++ms.take tn.toNat).take n.toNat).map V.str)):=e15 _ _ hq4d (by walk_at "lk")
 have g15:H15 q5=some (.lst [V.int 1,V.int (-1)]):=e15 _ _ hq5d h14
 have hstep:∃ k,atI [V.int 1,V.int (-1)] r=some (V.int k)/\(k=1\/k = -1):=by
  rcases(by omega:r=0\/r=1) with rfl | rfl
  . exact⟨1,rfl,.inl rfl⟩
  exact⟨-1,rfl,.inr rfl⟩
 obtain⟨kk,hk1,hk2⟩:=hstep
 refine Ib g15 hk1 ?_
 refine ae1 (SqL.of h15) hk2 fun q6 H16 hq6 e16 h16=>?_
 obtain⟨os,eo,ho1,ho2⟩:=Rg (k:=kk) (hN8.turn tn.toNat n.toNat)
 rw[eo] at h16
 have fr15:ExtBut d H H15:=by walk_at "fr"
 refine k q6 os H16 (hF15.free fr15 hq6) (by walk_at "fr") (by walk_at "fd") h16 ho1 ?_
 rw[ho2,List.length_take,List.length_append,List.length_drop,List.length_take]
 omega
def C0 (K:PySem.W.Frag):Sp:=fun vs H Q _=>∃ d l a xs,vs=[.ref d,.ref a]/\Feed H d l/\(SqL K H a xs\/SqT K H a xs)/\xs.length<=1000/\∀ p ys H',H p=none->ExtBut d H H'->Feed H' d l->H' p=some (.lst ys)->ys.Perm xs->Q (.ref p) H'
theorem Hz {f:Addr}{fd:FuncData}(F:Fun K "_law_shuffled" "_law_shuffled" Bg f fd)(T:Hc mg)(c__law_draw:Fnd P w K mg base 1 "_law_draw" ["_law_feed_here","_law_many"] (Bl K)):FnOk P w K mg base CX0 2 f fd ["_law_feed_here","_law_some"] (C0 K):=by
 refine F.ok C1 (fun vs H Q E h=>?_) (fun cdv A outer s H vs Q E hr h=>?_)
 . obtain⟨d,l,a,xs,rfl,_⟩:=h
   rfl
 obtain⟨d,l,a,xs,rfl,hF,hS,hx,k⟩:=h
 have hu:=Cm hr
 have hq:=Cu hr
 with_reducible refine⟨_,(A3 (Ab (i:=2) C1.nd (by ac_nf) (by eq_refl) (Au (Hg (K:=K)) (by ac_nf) T.b_list PyProof.Rows.Boot.«list» (A1 (pv 1) A2)))
  (A3 (Ab (i:=3) C1.nd (by ac_nf) (by eq_refl) (Cd A2))
  (A3 (Bs PassesOwn.never (by ac_nf) (Bz (by ac_nf) T.b_range (A1 (An (Bk (K:=K)) (by ac_nf) T.b_len PyProof.Rows.Boot.«len» (A1 (pv 2) A2)) A2)) (A8 (i:=4) C1.nd (by ac_nf) (by eq_refl))
  (A7 (Ei (Gd (K:=K) PySem.F.plainAttrs_list PySem.F.slot_list_append PySem.F.type_list_append (mm Fi) (pv 3) (A1 (Gd (K:=K) PySem.F.plainAttrs_list PySem.F.slot_list_pop PySem.F.type_list_pop (mm Xn) (pv 2) (A1 (As c__law_draw (hr.mono (by decide)) (by ac_nf) (A1 (pv 0) (A1 (An (Bk (K:=K)) (by ac_nf) T.b_len PyProof.Rows.Boot.«len» (A1 (pv 2) A2)) A2))) A2)) A2)))))
  (A7 (B6 (pv 3)))))),?_⟩
 walk_at "rd"
 refine Wc hS fun q H1 hq1 e1 h1=>?_
 walk_at "rd"
 refine Cb (by decide) fun p H2 hp2 e2 h2=>?_
 walk_at "rd"
 refine Gc (by omega) ?_
 have hp0:H p=none:=e1.free hp2
 have hpq:p≠q:=fun z=>by subst z;rw[h1] at hp2;cases hp2
 refine Ck Bf (fun i σ H3=>∃ us vs x4,σ=[some (.ref d),some (.ref a),some (.ref q),some (.ref p),x4]/\ExtBut d H H3/\Feed H3 d l/\H3 q=some (.lst us)/\H3 p=some (.lst vs)/\(vs++us).Perm xs/\us.length+i=xs.length/\vs.length=i)
  ⟨xs,[],none,rfl,by walk_at "fr",by walk_at "fd",by walk_at "lk",h2,by simp,rfl,rfl⟩ (fun _ _ _ _=>trivial) (fun i x σ H3 hx3 hi hP=>?_) (fun σ H3 hP=>?_)
 . obtain⟨us,vs,x4,rfl,e3,hF3,h3q,h3p,hperm,hlen,hvl⟩:=hP
   obtain⟨rfl,hi2⟩:=Dy hx3
   have hi3:i<xs.length:=by simpa using hi2
   walk_at "rd"
   refine⟨d,l,_,rfl,hF3,by omega,by omega,fun r H4 hr0 hr1 e4 hF4=>?_⟩
   have h4q:H4 q=some (.lst us):=e4 _ _ (hF3.lst h3q) h3q
   have h4p:H4 p=some (.lst vs):=e4 _ _ (hF3.lst h3p) h3p
   have hr2:r.toNat<us.length:=by omega
   walk_at "rd"
   refine Xq h4q hr0 (List.getElem?_eq_getElem hr2) (fun H5 e5 h5q=>?_) (by omega)
   have h5p:H5 p=some (.lst vs):=e5 _ _ hpq h4p
   walk_at "rd"
   refine Qh h5p (by omega) fun H6 e6 h6p=>?_
   walk_at "rd"
   refine⟨us.eraseIdx r.toNat,vs++[us[r.toNat]],_,rfl,by walk_at "fr",(hF4.put e5 (hF.nd hq1) (hF.nl hq1)).put e6 (hF.nd hp0) (hF.nl hp0),e6 _ _ (Ne.symm hpq) h5q,h6p,?_,?_,by simp[hvl]⟩
   . exact(Xp (List.getElem?_eq_getElem hr2) vs).trans hperm
   rw[List.length_eraseIdx,if_pos hr2]
   omega
 obtain⟨us,vs,x4,rfl,e3,hF3,h3q,h3p,hperm,hlen,hvl⟩:=hP
 walk_at "rd"
 have hu0:us=[]:=by
  rw[List.length_map,List.length_range] at hlen
  exact List.length_eq_zero_iff.mp (by omega)
 subst hu0
 rw[List.append_nil] at hperm
 exact k p vs H3 hp0 e3 hF3 h3p hperm
def Dp (K:PySem.W.Frag):Sp:=fun vs H Q _=>∃ d l a ls,vs=[.ref d,.ref a]/\Feed H d l/\H a=some (.lst (ls.map V.str))/\ls.length<=10/\∀ p xs ps H',H p=none->ExtBut d H H'->Feed H' d l->H' p=some (.lst xs)->IsL K H' (ps.map prD) xs->Up ls ps->ps.length<=100->Q (.ref p) H'
def MP (K:PySem.W.Frag)(H:Hp)(d l a:Addr)(ls:List Str)(way:Int)(E:Prop):L2.St->Hp->Prop:=fun σ' H'=>∃ p xs ps x5 x6 x7 x8,σ'=[some (V.ref d),some (.ref a),some (.int (ls.length:Nat)),some (.int way),some (.ref p),x5,x6,x7,x8]/\H p=none/\ExtBut d H H'/\Feed H' d l/\H' p=some (.lst xs)/\IsL K H' (ps.map prD) xs/\Up ls ps/\ps.length<=100/\(E->ps=[])
theorem Ll {K:PySem.W.Frag}{H:Hp}{ps:List (Str×Str)}{xs:List V}(h:IsL K H (ps.map prD) xs):xs.length=ps.length:=by rw[<- IsL.length h,List.length_map]
theorem L3 {f:Addr}{fd:FuncData}(F:Fun K "_law_pairs" "_law_pairs" Cc f fd)(T:Hc mg)(c__law_draw:Fnd P w K mg base 1 "_law_draw" ["_law_feed_here","_law_many"] (Bl K)):FnOk P w K mg base CX0 2 f fd ["_law_feed_here","_law_line"] (Dp K):=by
 refine F.ok Am (fun vs H Q E h=>?_) (fun cdv A outer s H vs Q E hr h=>?_)
 . obtain⟨d,l,a,xs,rfl,_⟩:=h
   rfl
 obtain⟨d,l,a,ls,rfl,hF,hA,hl,k⟩:=h
 have hu:=Cm hr
 have hq:=Cu hr
 with_reducible refine⟨_,(A3 (Ab (i:=2) Am.nd (by ac_nf) (by eq_refl) (An (Bk (K:=K)) (by ac_nf) T.b_len PyProof.Rows.Boot.«len» (A1 (pv 1) A2)))
  (A3 (Ab (i:=3) Am.nd (by ac_nf) (by eq_refl) (As c__law_draw (hr.mono (by decide)) (by ac_nf) (A1 (pv 0) (A1 A5 A2))))
  (A3 (Ab (i:=4) Am.nd (by ac_nf) (by eq_refl) (Cd A2))
  (A3 (G8 (PW.pt (Tm (Ar a48 (pv 3) A5 (Bx _)) (Pb (Ar a05 (pv 2) A5 (Bx _))))) (A7 (Bs PassesOwn.never (by ac_nf) (Bz (by ac_nf) T.b_range (A1 (Ah (A6 (K:=K) hu) (Cd (A1 (Ag Ij (pv 2) A5) (A1 (pv 2) (A1 (Ag Ct A5 (pv 2)) A2)))) (pv 3) (by ac_rfl)) A2)) (A8 (i:=5) Am.nd (by ac_nf) (by eq_refl))
  (A3 (Ab (i:=6) Am.nd (by ac_nf) (by eq_refl) (As c__law_draw (hr.mono (by decide)) (by ac_nf) (A1 (pv 0) (A1 (Ag Gp (pv 2) A5) A2))))
  (A7 (Ei (Gd (K:=K) PySem.F.plainAttrs_list PySem.F.slot_list_append PySem.F.type_list_append (mm Fi) (pv 4) (A1 (Bm (A1 (Ah (A6 (K:=K) hu) (pv 1) (pv 6) (by ac_rfl)) (A1 (Ah (A6 (K:=K) hu) (pv 1) (Ag (Ad (K:=K)) (Ag (Ad (K:=K)) (pv 6) A5) (As c__law_draw (hr.mono (by decide)) (by ac_nf) (A1 (pv 0) (A1 (Ag Gp (Ag Gp (pv 2) A5) (pv 6)) A2)))) (by ac_rfl)) A2))) A2))))))) By)
  (A3 (G8 (Ar (Fs (K:=K) hq) (pv 3) A5 (Bx _)) (A3 (Ab (i:=7) Am.nd (by ac_nf) (by with_unfolding_all exact Or.inr rfl) (As c__law_draw (hr.mono (by decide)) (by ac_nf) (A1 (pv 0) (A1 (Ag (Ad (K:=K)) (pv 2) A5) A2))))
  (A7 (Dr (i:=4) ["_law_k"] ["_law_line","_law_cut"] [1,7] (by ac_nf) (by ac_nf) (by ac_nf) Am.nd (by ac_nf) (by ac_nf) (Bz (by ac_nf) T.b_range (A1 (Ag Gp (pv 2) A5) A2)) (fun _ _ _ _=>(A8 (i:=0) (by with_unfolding_all (show(["_law_k","_law_line","_law_cut"]:List Str).Nodup;decide +kernel)) (by ac_nf) (by eq_refl))) (B7 (by decide)) (fun _ _ _ _=>(Di (Ar (ac7 (K:=K) hq) (Ag (Ad (K:=K)) (pv 0) A5) (pv 2) (Bx _)))) (fun _ _ _ _=>(Bm (A1 (Ah (A6 (K:=K) hu) (pv 1) (pv 0) (by ac_rfl)) (A1 (Ah (A6 (K:=K) hu) (pv 1) (Ag (Ad (K:=K)) (pv 0) A5) (by ac_rfl)) A2))))))) By)
  (A3 (G8 (Ar (Fs (K:=K) hq) (pv 3) A5 (Bx _)) (A7 (Dr (i:=4) ["_law_k"] ["_law_line","_law_feed_here"] [1,0] (by ac_nf) (by ac_nf) (by ac_nf) Am.nd (by ac_nf) (by ac_nf) (Uq (by ac_nf) T.b_range (A1 A5 (A1 (pv 2) A2))) (fun _ _ _ _=>(A8 (i:=0) (by with_unfolding_all (show(["_law_k","_law_line","_law_feed_here"]:List Str).Nodup;decide +kernel)) (by ac_nf) (by eq_refl))) (B7 (by decide)) (fun _ _ _ _=>(Di (Ar a05 (As c__law_draw (hr.mono (by decide)) (by ac_nf) (A1 (pv 2) (A1 A5 A2))) A5 (Bx _)))) (fun _ _ _ _=>(Bm (A1 (Ah (A6 (K:=K) hu) (pv 1) (As c__law_draw (hr.mono (by decide)) (by ac_nf) (A1 (pv 2) (A1 (pv 0) A2))) (by ac_rfl)) (A1 (Ah (A6 (K:=K) hu) (pv 1) (pv 0) (by ac_rfl)) A2)))))) By)
  (A3 (G8 (Ar (Fs (K:=K) hq) (pv 3) A5 (Bx _)) (A3 (Ab (i:=7) Am.nd (by ac_nf) (by with_unfolding_all exact Or.inr rfl) (As c__law_draw (hr.mono (by decide)) (by ac_nf) (A1 (pv 0) (A1 (Ag (Ad (K:=K)) (pv 2) A5) A2))))
  (A7 (Bs PassesOwn.never (by ac_nf) (Ak (K:=K) hu (Ay (Le (K:=K)) (pv 1) C3 (B4 (pv 7)))) (A8 (i:=8) Am.nd (by ac_nf) (by with_unfolding_all exact Or.inr rfl))
  (A7 (Ei (Gd (K:=K) PySem.F.plainAttrs_list PySem.F.slot_list_extend PySem.F.type_list_extend (mm Iz) (pv 4) (A1 (Br ["_law_other"] ["_law_one"] [8] (by ac_nf) (by ac_nf) (by ac_nf) (Ak (K:=K) hu (Ay (Le (K:=K)) (pv 1) (B4 (pv 7)) C3)) (fun _ _ _ _=>(A8 (i:=0) (by with_unfolding_all (show(["_law_other","_law_one"]:List Str).Nodup;decide +kernel)) (by ac_nf) (by eq_refl))) (B7 (by decide)) (fun _ _ _ _=>Dl) (fun _ _ _ _=>(Bm (A1 (pv 1) (A1 (pv 0) A2))))) A2))))))) By)
  (A7 (B6 (pv 4)))))))))),?_⟩
 walk_at "rd"
 rw[List.length_map]
 refine⟨d,l,_,rfl,hF,by omega,by omega,fun way H1 hw0 hw1 e1 hF1=>?_⟩
 have had:a≠d:=hF.lst hA
 walk_at "rd"
 refine Cb (by decide) fun p H2 hp2 e2 h2=>?_
 walk_at "rq"
 have hp0:H p=none:=hF1.free e1 hp2
 have hF2:Feed H2 d l:=by walk_at "fd"
 have hA2:H2 a=some (.lst (ls.map V.str)):=by walk_at "lk"
 with_reducible refine Om (MP K H d l a ls way (way=5)) (fun N hN=>?_) (fun σ1 H3 hM=>?_)
 . walk_at "rq"
   have done0:N [some (V.ref d),some (.ref a),some (.int (ls.length:Nat)),some (.int way),some (.ref p),none,none,none,none] H2:=hN _ _ ⟨p,[],[],none,none,none,none,rfl,hp0,by walk_at "fr",hF2,h2,.nil,.nil,by decide,fun _=>rfl⟩
   refine Nt (fun hw=>?_) (fun hw=>?_)
   . walk_at "rq"
     refine Nt (fun hm=>?_) (fun hm=>?_)
     . walk_at "rq"
       refine Cb (Ac (by simp)) fun q H3 hq3 e3 h3=>?_
       have hm3:∃ m,atI [V.int ((ls.length:Nat) / 2),V.int (ls.length:Nat),V.int (3*(ls.length:Nat))] way=some (V.int m)/\0<=m/\m<=30:=by
        rcases(by omega:way=0\/way=1\/way=2) with rfl | rfl | rfl
        . exact⟨_,rfl,by omega,by omega⟩
        . exact⟨_,rfl,by omega,by omega⟩
        exact⟨_,rfl,by omega,by omega⟩
       obtain⟨m,hm1,hm2,hm3⟩:=hm3
       walk_at "rq"
       refine Ib h3 hm1 ?_
       walk_at "rq"
       refine Gc (by omega) ?_
       refine Ck Bf (fun i σ H4=>∃ xs ps x5 x6,σ=[some (V.ref d),some (.ref a),some (.int (ls.length:Nat)),some (.int way),some (.ref p),x5,x6,none,none]/\ExtBut d H H4/\Feed H4 d l/\H4 p=some (.lst xs)/\IsL K H4 (ps.map prD) xs/\Up ls ps/\ps.length=i)
        ⟨[],[],none,none,rfl,by walk_at "fr",by walk_at "fd",by walk_at "lk",.nil,.nil,rfl⟩ (fun _ _ _ _=>trivial) (fun i x σ H4 hx4 hi hP=>?_) (fun σ H4 hP=>?_)
       . obtain⟨xs,ps,x5,x6,rfl,e4,hF4,h4,hI4,hU,hpl⟩:=hP
         obtain⟨rfl,hi2⟩:=Dy hx4
         have hA4:H4 a=some (.lst (ls.map V.str)):=e4 _ _ had hA
         walk_at "rd"
         refine⟨d,l,_,rfl,hF4,by omega,by omega,fun u H5 hu0 hu1 e5 hF5=>?_⟩
         obtain⟨z1,hz1,hz1',_⟩:=str_at? (ls:=ls) (i:=u) hu0 (by omega)
         have hA5:H5 a=some (.lst (ls.map V.str)):=e5 _ _ had hA4
         have h5:H5 p=some (.lst xs):=e5 _ _ (hF4.lst h4) h4
         walk_at "rd"
         refine Ib hA5 hz1' ?_
         walk_at "rd"
         refine⟨d,l,_,rfl,hF5,by omega,by omega,fun u2 H6 hv0 hv1 e6 hF6=>?_⟩
         obtain⟨z2,hz2,hz2',_⟩:=str_at? (ls:=ls) (i:=u+1+u2) (by omega) (by omega)
         have hA6:H6 a=some (.lst (ls.map V.str)):=e6 _ _ had hA5
         have h6:H6 p=some (.lst xs):=e6 _ _ (hF5.lst h5) h5
         walk_at "rd"
         refine Ib hA6 hz2' ?_
         walk_at "rd"
         refine Bn (Ac (by simp)) fun t H7 ht7 e7 h7=>?_
         have h7p:H7 p=some (.lst xs):=e7 _ _ h6
         have hxl:=Ll hI4
         walk_at "rd"
         refine Qh h7p (by omega) fun H8 e8 h8=>?_
         walk_at "rd"
         have fz8:Fz H7 H8:=e8.fzL h7p
         have fz7:Fz H4 H7:=((hF4.fz e5).trans (hF5.fz e6)).trans e7.fz
         refine⟨xs++[.ref t],ps++[(z1,z2)],_,_,rfl,by walk_at "fr",by walk_at "fd",h8,?_,?_,by simp[hpl]⟩
         . rw[List.map_append]
           exact(IsL.fz (fz7.trans fz8) _ _ (Bv ps) hI4).append (.one ((Ny (SqT.of h7)).pr_fz fz8))
         exact hU.append (.one (by omega) hz1 hz2)
       obtain⟨xs,ps,x5,x6,rfl,e4,hF4,h4,hI4,hU,hpl⟩:=hP
       rw[List.length_map,List.length_range] at hpl
       exact hN _ _ ⟨p,xs,ps,_,_,_,_,rfl,hp0,e4,hF4,h4,hI4,hU,by omega,fun q=>by omega⟩
     walk_at "rq"
     exact done0
   walk_at "rq"
   exact done0
 obtain⟨p3,xs3,ps3,x5,x6,x7,x8,rfl,hp3,e3,hF3,h3,hI3,hU3,hl3,hE3⟩:=hM
 have hA3:H3 a=some (.lst (ls.map V.str)):=e3 _ _ had hA
 with_reducible refine Om (MP K H d l a ls way (way=5)) (fun N hN=>?_) (fun σ1 H4 hM=>?_)
 . walk_at "rq"
   refine Nt (fun hw=>?_) (fun hw=>?_)
   . walk_at "rd"
     refine⟨d,l,_,rfl,hF3,by omega,by omega,fun cut H4 hc0 hc1 e4 hF4=>?_⟩
     have hA4:H4 a=some (.lst (ls.map V.str)):=e4 _ _ had hA3
     walk_at "rd"
     refine Gc (by omega) ?_
     refine Cz (K:=K) Bf (List.range ((ls.length:Nat)-1:Int).toNat) (by simp) (fun k=>!decide (V.int ((0:Int)+(k:Nat)+1)=V.int cut)) (fun k=>prD (ls.getD k "",ls.getD (k+1) "")) (fun _=>Hd _) (by simp;omega) (fun _ _=>trivial) (fun i k v H5 R R' hk hv e5 hR hR'=>?_) (fun p5 ys H5 hp5 e5 h5 hI5=>?_)
     . obtain⟨rfl,hi2⟩:=Dy hv
       have hki:i=k:=by
        obtain⟨_,h2⟩:=List.getElem?_eq_some_iff.mp hk
        rw[List.getElem_range] at h2
        exact h2
       subst hki
       have hA5:H5 a=some (.lst (ls.map V.str)):=e5 _ _ hA4
       walk_at "rd"
       refine al8 (fun hc=>?_) (fun hc=>?_)
       . obtain⟨z1,hz1,hz1',_⟩:=str_at? (ls:=ls) (i:=0+(i:Int)) (by omega) (by omega)
         obtain⟨z2,hz2,hz2',_⟩:=str_at? (ls:=ls) (i:=0+(i:Int)+1) (by omega) (by omega)
         walk_at "rd"
         refine Ib hA5 hz1' ?_
         walk_at "rd"
         refine Ib hA5 hz2' ?_
         walk_at "rd"
         refine Bn (Ac (by simp)) fun t H6 ht6 e6 h6=>?_
         have q1:(0+(i:Int)).toNat=i:=by omega
         have q2:(0+(i:Int)+1).toNat=i+1:=by omega
         rw[q1] at hz1
         rw[q2] at hz2
         refine hR (by rw[decide_eq_false hc];rfl) _ _ e6 ?_
         rw[Oo hz1,Oo hz2]
         exact Ny (SqT.of h6)
       exact hR' (by rw[decide_eq_true hc];rfl) _ (Same.refl _)
     walk_at "rd"
     rw[Vn] at hI5
     have hp0':H p5=none:=hF4.free (by walk_at "fr") hp5
     refine hN _ _ ⟨p5,ys,_,_,_,_,_,rfl,hp0',by walk_at "fr",by walk_at "fd",h5,hI5,fun pr hpr=>?_,?_,fun q=>by cases hw;cases q⟩
     . obtain⟨j,hj,rfl⟩:=List.mem_map.mp hpr
       have hj:=List.mem_range.mp (List.mem_filter.mp hj).1
       exact⟨j,j+1,by omega,Ee (by omega),Ee (by omega)⟩
     rw[List.length_map]
     refine Nat.le_trans (List.length_filter_le _ _) ?_
     rw[List.length_range]
     omega
   walk_at "rq"
   exact hN _ _ ⟨p3,xs3,ps3,x5,x6,x7,x8,rfl,hp3,e3,hF3,h3,hI3,hU3,hl3,hE3⟩
 obtain⟨p4,xs4,ps4,y5,y6,y7,y8,rfl,hp4,e4,hF4,h4,hI4,hU4,hl4,hE4⟩:=hM
 have hA4:H4 a=some (.lst (ls.map V.str)):=e4 _ _ had hA
 with_reducible refine Om (MP K H d l a ls way (way=5)) (fun N hN=>?_) (fun σ1 H5 hM=>?_)
 . walk_at "rq"
   refine Nt (fun hw=>?_) (fun hw=>?_)
   . walk_at "rd"
     refine a97 (by omega) ?_
     refine Gg Bf (fun p i acc H5=>∃ ps,ExtBut d H H5/\Feed H5 d l/\IsL K H5 (ps.map prD) acc/\Up ls ps/\ps.length<=i) (fun p H5 hp e5 h5=>⟨[],by walk_at "fr",by walk_at "fd",.nil,.nil,Nat.le_refl _⟩) (fun _ _ _ _ _=>trivial) (fun p i x acc H5 hp hx hi hl5 ha hP=>?_) fun p acc H5 hp ha hl5 hP=>?_
     . obtain⟨ps,e5,hF5,hI5,hU5,hpl5⟩:=hP
       obtain⟨rfl,hi2⟩:=Dy hx
       have hp0':H p=none:=hF4.free e4 hp
       have hpd:p≠d:=Ne.symm (hF4.nd hp)
       walk_at "rd"
       refine⟨d,l,_,rfl,hF5,by omega,by omega,fun u H6 hu0 hu1 e6 hF6=>?_⟩
       walk_at "rd"
       have h6:H6 p=some (.lst acc):=e6 _ _ hpd ha
       have hA6:H6 a=some (.lst (ls.map V.str)):=e6 _ _ had (e5 _ _ had hA)
       refine Nt (fun hc=>?_) (fun hc=>?_)
       . walk_at "rd"
         refine⟨d,l,_,rfl,hF6,by omega,by omega,fun u2 H7 hv0 hv1 e7 hF7=>?_⟩
         have h7:H7 p=some (.lst acc):=e7 _ _ hpd h6
         have hA7:H7 a=some (.lst (ls.map V.str)):=e7 _ _ had hA6
         obtain⟨z1,hz1,hz1',_⟩:=str_at? (ls:=ls) (i:=u2) hv0 (by omega)
         obtain⟨z2,hz2,hz2',_⟩:=str_at? (ls:=ls) (i:=1+(i:Int)) (by omega) (by omega)
         walk_at "rd"
         refine Ib hA7 hz1' ?_
         walk_at "rd"
         refine Ib hA7 hz2' ?_
         walk_at "rd"
         refine Bn (Ac (by simp)) fun t H8 ht8 e8 h8=>?_
         have h8p:H8 p=some (.lst acc):=e8 _ _ h7
         refine Je (by simp;omega) hi hl5 h8p fun H9 e9 h9=>?_
         have fz9:Fz H8 H9:=e9.fzL h8p
         have fz8:Fz H5 H8:=((hF5.fz e6).trans (hF6.fz e7)).trans e8.fz
         refine⟨ps++[(z1,z2)],by walk_at "fr",by walk_at "fd",?_,hU5.append (.one (by omega) hz1 hz2),by simp[hpl5]⟩
         rw[List.map_append]
         exact(IsL.fz (fz8.trans fz9) _ _ (Bv ps) hI5).append (.one ((Ny (SqT.of h8)).pr_fz fz9))
       refine Og hi hl5 h6 ⟨ps,by walk_at "fr",hF6,IsL.fz (hF5.fz e6) _ _ (Bv ps) hI5,hU5,by omega⟩
     obtain⟨ps,e5,hF5,hI5,hU5,hpl5⟩:=hP
     rw[List.length_map,List.length_range] at hpl5
     walk_at "rd"
     exact hN _ _ ⟨p,acc,ps,_,_,_,_,rfl,hF4.free e4 hp,e5,hF5,ha,hI5,hU5,by omega,fun q=>by cases hw;cases q⟩
   walk_at "rq"
   exact hN _ _ ⟨p4,xs4,ps4,_,_,_,_,rfl,hp4,e4,hF4,h4,hI4,hU4,hl4,hE4⟩
 obtain⟨p5,xs5,ps5,z5,z6,z7,z8,rfl,hp5,e5,hF5,h5,hI5,hU5,hl5,hE5⟩:=hM
 have hA5:H5 a=some (.lst (ls.map V.str)):=e5 _ _ had hA
 with_reducible refine Om (MP K H d l a ls way False) (fun N hN=>?_) (fun σ1 H6 hM=>?_)
 . walk_at "rq"
   refine Nt (fun hw=>?_) (fun hw=>?_)
   . walk_at "rd"
     refine⟨d,l,_,rfl,hF5,by omega,by omega,fun cut H6 hc0 hc1 e6 hF6=>?_⟩
     have hA6:H6 a=some (.lst (ls.map V.str)):=e6 _ _ had hA5
     have h6:H6 p5=some (.lst xs5):=e6 _ _ (hF5.lst h5) h5
     walk_at "rd"
     refine Gj (SqL.of hA6) fun q H7 hq7 e7 h7=>?_
     rw[Ed hc0,<- List.map_take] at h7
     have hq0:H q=none:=hF6.free (by walk_at "fr") hq7
     have hp5n:p5≠q:=ne_of_none h6 hq7
     refine G9 (SqL.of h7) ?_
     have hway:way=5:=by
      cases hw
      rfl
     have hps:ps5=[]:=hE5 hway
     subst hps
     have hxs:xs5=[]:=by simpa only[List.map_nil,L2.IsL] using hI5
     subst hxs
     have hdrop:∀ H8,ExtBut d H H8->H8 a=some (.lst (ls.map V.str)):=fun H8 e8=>e8 _ _ had hA
     refine Ck (Av (xs:=(ls.take cut.toNat).map V.str)) (fun i σ H8=>∃ xs ps x8,σ=[some (V.ref d),some (.ref a),some (.int (ls.length:Nat)),some (.int way),some (.ref p5),z5,z6,some (.int cut),x8]/\ExtBut d H H8/\Feed H8 d l/\H8 q=some (.lst ((ls.take cut.toNat).map V.str))/\H8 p5=some (.lst xs)/\IsL K H8 (ps.map prD) xs/\Up ls ps/\ps.length<=i*10)
      ⟨[],[],_,rfl,by walk_at "fr",by walk_at "fd",h7,by walk_at "lk",.nil,.nil,by decide⟩ (fun i σ H8 hP=>?_) (fun i x σ H8 hx8 hi hP=>?_) (fun σ H8 hP=>?_)
     . obtain⟨xs,ps,x8,rfl,e8,hF8,hq8,_⟩:=hP
       exact SqL.of hq8
     . obtain ⟨xs,ps,x8,rfl,e8,hF8,hq8,h8,hI8,hU8,hl8⟩:=hP
       rw[List.getElem?_map] at hx8
       cases hz:(ls.take cut.toNat)[i]? with
       | none=>rw[hz] at hx8;cases hx8
       | some one=>
         rw[hz] at hx8
         cases hx8
         have hi10:i<10:=by
          have:=List.getElem?_eq_some_iff.mp hz
          obtain⟨h1,_⟩:=this
          rw[List.length_take] at h1
          omega
         have hone:ls[i]? = some one:=by
          rw[List.getElem?_take] at hz
          split at hz
          . exact hz
          cases hz
         have hicut:i<cut.toNat:=by
          rw[List.getElem?_take] at hz
          split at hz
          . assumption
          cases hz
         walk_at "rd"
         refine Gj (SqL.of (hdrop H8 e8)) fun q9 H9 hq9 e9 h9=>?_
         rw[G0 hc0 (by rw[List.length_map];omega),<- List.map_drop] at h9
         refine G9 (SqL.of h9) ?_
         refine Cz (K:=K) (Av (xs:=(ls.drop cut.toNat).map V.str)) (ls.drop cut.toNat) (by simp) (fun _=>true) (fun o=>prD (one,o)) (fun _=>Hd _) (by simp;omega) (fun H' e'=>SqL.of (e' _ _ h9)) (fun j o v H10 R R' ho hv e10 hR hR'=>?_) (fun p10 ys H10 hp10 e10 h10 hI10=>?_)
         . rw[List.getElem?_map,ho] at hv
           cases hv
           walk_at "rd"
           refine Bn (Ac (by simp)) fun t H11 ht11 e11 h11=>?_
           exact hR rfl _ _ e11 (Ny (SqT.of h11))
         walk_at "rd"
         have h10p:H10 p5=some (.lst xs):=e10 _ _ (e9 _ _ h8)
         have hy:ys.length<=10:=by
          have:=IsL.length hI10
          rw[List.length_map,C4,List.length_drop] at this
          omega
         have hxl:=Ll hI8
         refine T3 h10p h10 (by omega) fun H11 e11 h11=>?_
         walk_at "rd"
         have hq10:H10 q=some (.lst ((ls.take cut.toNat).map V.str)):=e10 _ _ (e9 _ _ hq8)
         have fz11:Fz H10 H11:=e11.fzL h10p
         rw[C4,Vn] at hI10
         refine⟨xs++ys,ps++(ls.drop cut.toNat).map (fun o=>(one,o)),_,rfl,by walk_at "fr",by walk_at "fd",e11 _ _ (Ne.symm hp5n) hq10,h11,?_,hU8.append fun pr hpr=>?_,?_⟩
         . rw[List.map_append]
           exact(IsL.fz ((e9.fz.trans e10.fz).trans fz11) _ _ (Bv ps) hI8).append (IsL.fz fz11 _ _ (Bv _) hI10)
         . obtain⟨o,ho,rfl⟩:=List.mem_map.mp hpr
           obtain⟨j,hj,ej⟩:=List.getElem_of_mem ho
           refine⟨i,cut.toNat+j,by omega,hone,?_⟩
           rw[<- List.getElem?_drop,List.getElem?_eq_getElem hj,ej]
         rw[List.length_append,List.length_map,List.length_drop,Nat.add_mul]
         omega
     obtain⟨xs,ps,x8,rfl,e8,hF8,hq8,h8,hI8,hU8,hl8⟩:=hP
     rw[List.length_map,List.length_take] at hl8
     exact hN _ _ ⟨p5,xs,ps,_,_,_,_,rfl,hp5,e8,hF8,h8,hI8,hU8,by omega,False.elim⟩
   walk_at "rq"
   exact hN _ _ ⟨p5,xs5,ps5,_,_,_,_,rfl,hp5,e5,hF5,h5,hI5,hU5,hl5,False.elim⟩
 obtain⟨p6,xs6,ps6,w5,w6,w7,w8,rfl,hp6,e6,hF6,h6,hI6,hU6,hl6,hE6⟩:=hM
 walk_at "rd"
 exact k p6 xs6 ps6 H6 hp6 e6 hF6 h6 hI6 hU6 hl6
def Dz (K:PySem.W.Frag):Sp:=fun vs H Q _=>∃ d l a ls,vs=[.ref d,.ref a]/\Feed H d l/\H a=some (.lst (ls.map V.str))/\ls.length<=10/\∀ v ps H',ExtBut d H H'->Feed H' d l->Is K H' (psD ps) v->Up ls ps->ps.length<=60->Q v H'
theorem a01 {K:PySem.W.Frag}{H:Hp}{ps:List (Str×Str)}{xs:List V}{p:Str×Str}{v:V}(n:Nat)(h:IsL K H (ps.map prD) xs)(hv:Is K H (prD p) v):IsL K H ((ps.take n++p :: ps.drop n).map prD) (al9 xs n v):=by
 rw[List.map_append,List.map_cons,List.map_take,List.map_drop]
 exact(IsL.take n h).append (.cons hv (IsL.drop n h))
theorem J6 {f:Addr}{fd:FuncData}(F:Fun K "_law_sayings" "_law_sayings" Bq f fd)(T:Hc mg)(c__law_draw:Fnd P w K mg base 1 "_law_draw" ["_law_feed_here","_law_many"] (Bl K))(c__law_pairs:Fnd P w K mg base 2 "_law_pairs" ["_law_feed_here","_law_line"] (Dp K)):FnOk P w K mg base CX0 3 f fd ["_law_feed_here","_law_line"] (Dz K):=by
 refine F.ok Ch (fun vs H Q E h=>?_) (fun cdv A outer s H vs Q E hr h=>?_)
 . obtain⟨d,l,a,xs,rfl,_⟩:=h
   rfl
 obtain⟨d,l,a,ls,rfl,hF,hA,hl,k⟩:=h
 have hu:=Cm hr
 have hq:=Cu hr
 with_reducible refine⟨_,(A3 (Ab (i:=2) Ch.nd (by ac_nf) (by eq_refl) (Cd A2))
  (A3 (Bs PassesOwn.never (by ac_nf) (Ak (K:=K) hu (As c__law_pairs (hr.mono (by decide)) (by ac_nf) (A1 (pv 0) (A1 (pv 1) A2)))) (A8 (i:=3) Ch.nd (by ac_nf) (by eq_refl))
  (A7 (Bs PassesOwn.never (by ac_nf) (Bz (by ac_nf) T.b_range (A1 (Ag (Ad (K:=K)) A5 (Au Nr (by ac_nf) T.b_int PyProof.Rows.Boot.«int» (A1 (Hn (Fs (K:=K) hq) (As c__law_draw (hr.mono (by decide)) (by ac_nf) (A1 (pv 0) (A1 A5 A2))) A5 (Bx _)) A2))) A2)) (A8 (i:=4) Ch.nd (by ac_nf) (by eq_refl))
  (A7 (Ei (Gd (K:=K) PySem.F.plainAttrs_list PySem.F.slot_list_insert PySem.F.type_list_insert (mm Sk) (pv 2) (A1 (As c__law_draw (hr.mono (by decide)) (by ac_nf) (A1 (pv 0) (A1 (Ag (Ad (K:=K)) (An (Bk (K:=K)) (by ac_nf) T.b_len PyProof.Rows.Boot.«len» (A1 (pv 2) A2)) A5) A2))) (A1 (pv 3) A2))))))))
  (A7 (B6 (Au (Cw (K:=K)) (by ac_nf) T.b_tuple PyProof.Rows.Boot.«tuple» (A1 (Ay (Le (K:=K)) (pv 2) C3 (B4 A5)) A2)))))),?_⟩
 walk_at "rd"
 refine Cb (by decide) fun p H1 hp1 e1 h1=>?_
 have hA1:H1 a=some (.lst (ls.map V.str)):=e1 _ _ hA
 have hF1:Feed H1 d l:=hF.same e1
 walk_at "rd"
 refine⟨d,l,a,ls,rfl,hF1,hA1,hl,fun q xs ps H2 hq2 e2 hF2 h2 hI2 hU2 hl2=>?_⟩
 have hpd:p≠d:=Ne.symm (hF.nd hp1)
 have h2p:H2 p=some (.lst []):=e2 _ _ hpd h1
 have hpq:p≠q:=ne_of_none h1 hq2
 have hq0:H q=none:=e1.free hq2
 have hxl:=Ll hI2
 refine G9 (SqL.of h2) ?_
 refine Ck (Av (xs:=xs)) (fun i σ H3=>∃ ys qs x3 x4,σ=[some (V.ref d),some (.ref a),some (.ref p),x3,x4]/\ExtBut d H H3/\Feed H3 d l/\H3 q=some (.lst xs)/\Fz H2 H3/\H3 p=some (.lst ys)/\IsL K H3 (qs.map prD) ys/\Up ls qs/\qs.length<=i*2)
  ⟨[],[],_,_,rfl,by walk_at "fr",hF2,h2,.refl _,h2p,.nil,.nil,by decide⟩ (fun i σ H3 hP=>?_) (fun i x σ H3 hx3 hi hP=>?_) (fun σ H3 hP=>?_)
 . obtain⟨ys,qs,x3,x4,rfl,e3,hF3,hq3,_⟩:=hP
   exact SqL.of hq3
 . obtain⟨ys,qs,x3,x4,rfl,e3,hF3,hq3,fz3,h3p,hI3,hU3,hl3⟩:=hP
   obtain ⟨dp,hdp,hip⟩:=IsL.get hI2 hx3
   rw[List.getElem?_map] at hdp
   cases hpr:ps[i]? with
   | none=>rw[hpr] at hdp;cases hdp
   | some pr=>
     rw[hpr] at hdp
     cases hdp
     have hUp:Up ls [pr]:=hU2.sub fun z hz=>by
      have:z=pr:=by simpa using hz
      subst this
      exact List.mem_of_getElem? hpr
     have hi100:i<100:=by omega
     walk_at "rd"
     refine⟨d,l,_,rfl,hF3,by omega,by omega,fun u H4 hu0 hu1 e4 hF4=>?_⟩
     have h4p:H4 p=some (.lst ys):=e4 _ _ hpd h3p
     have h4q:H4 q=some (.lst xs):=e4 _ _ (hF3.lst hq3) hq3
     have fz4:Fz H2 H4:=fz3.trans (hF3.fz e4)
     have hI4:IsL K H4 (qs.map prD) ys:=IsL.fz (hF3.fz e4) _ _ (Bv qs) hI3
     walk_at "rd"
     refine Gc (by split<;>omega) ?_
     refine Ck Bf (fun j σ H5=>∃ zs rs x4,σ=[some (V.ref d),some (.ref a),some (.ref p),some x,x4]/\ExtBut d H H5/\Feed H5 d l/\H5 q=some (.lst xs)/\Fz H2 H5/\H5 p=some (.lst zs)/\IsL K H5 (rs.map prD) zs/\Up ls rs/\rs.length=qs.length+j)
      ⟨ys,qs,_,rfl,by walk_at "fr",hF4,h4q,fz4,h4p,hI4,hU3,rfl⟩ (fun _ _ _ _=>trivial) (fun j x' σ H5 hx5 hj hP=>?_) (fun σ H5 hP=>?_)
     . obtain⟨zs,rs,x4',rfl,e5,hF5,hq5,fz5,h5p,hI5,hU5,hl5⟩:=hP
       obtain⟨rfl,hj2⟩:=Dy hx5
       have hzl:=Ll hI5
       have hj3:j<2:=by
        have:(1+if decide (V.int u=V.int 0)=true then(1:Int) else 0).toNat<=2:=by split<;>omega
        omega
       walk_at "rd"
       refine⟨d,l,_,rfl,hF5,by omega,by omega,fun u2 H6 hv0 hv1 e6 hF6=>?_⟩
       have h6p:H6 p=some (.lst zs):=e6 _ _ hpd h5p
       have h6q:H6 q=some (.lst xs):=e6 _ _ (hF5.lst hq5) hq5
       walk_at "rd"
       refine al1 h6p hv0 (by omega) (by omega) fun H7 e7 h7p=>?_
       have fz6:Fz H5 H6:=hF5.fz e6
       have fz7:Fz H6 H7:=e7.fzL h6p
       walk_at "rd"
       refine⟨_,_,_,rfl,by walk_at "fr",by walk_at "fd",e7 _ _ (Ne.symm hpq) h6q,(fz5.trans fz6).trans fz7,h7p,a01 u2.toNat (IsL.fz (fz6.trans fz7) _ _ (Bv rs) hI5) (Is.fz ((fz5.trans fz6).trans fz7) _ _ (Hd pr) hip),?_,?_⟩
       . intro z hz
         rcases List.mem_append.mp hz with hz | hz
         . exact hU5 z (List.mem_of_mem_take hz)
         rcases List.mem_cons.mp hz with rfl | hz
         . exact hUp _ (by simp)
         exact hU5 z (List.mem_of_mem_drop hz)
       rw[List.length_append,List.length_cons,List.length_take,List.length_drop]
       omega
     obtain⟨zs,rs,x4',rfl,e5,hF5,hq5,fz5,h5p,hI5,hU5,hl5⟩:=hP
     rw[List.length_map,List.length_range] at hl5
     have hj3:(1+if decide (V.int u=V.int 0)=true then(1:Int) else 0).toNat<=2:=by split<;>omega
     exact⟨zs,rs,_,_,rfl,e5,hF5,hq5,fz5,h5p,hI5,hU5,by omega⟩
 obtain⟨ys,qs,x3,x4,rfl,e3,hF3,hq3,fz3,h3p,hI3,hU3,hl3⟩:=hP
 walk_at "rd"
 refine Gj (SqL.of h3p) fun t H4 ht4 e4 h4=>?_
 walk_at "rd"
 rw[Ed (by decide)] at h4
 refine Ii (SqL.of h4) fun t2 H5 ht5 e5 h5=>?_
 have hI5:IsL K H5 (qs.map prD) ys:=IsL.mono e5 _ _ (IsL.mono e4 _ _ hI3)
 refine k (.ref t2) (qs.take 60) H5 (by walk_at "fr") (by walk_at "fd") (Is.of_tup (SqT.of h5) ?_) (hU3.sub fun z hz=>List.mem_of_mem_take hz) ?_
 . rw[List.map_take]
   exact IsL.take 60 hI5
 rw[List.length_take]
 omega
def Fv (K:PySem.W.Frag):Sp:=fun vs H Q _=>∃ d l n,vs=[.ref d,.int n]/\Feed H d l/\0<=n/\n<=10/\∀ v ns ps H',ExtBut d H H'->Feed H' d l->Is K H' (hfD ns ps) v->Half ns ps->ns.length<=n.toNat->Q v H'
theorem a42 {ns ls:List Str}{ps:List (Str×Str)}(h:Names ns)(hl:ns.length<=10)(p:ls.Perm ns)(u:Up ls ps)(hp:ps.length<=60):Half ns ps:=⟨h,hl,hp,ls,p,u⟩
theorem M7 {ns:List Str}{ys:List V}(h:ys.Perm (ns.map V.str)):∃ ls:List Str,ys=ls.map V.str/\ls.Perm ns:=by
 refine⟨ys.map fun v=>match v with | .str z=>z | _=>"",?_,?_⟩
 . rw[List.map_map]
   have:∀ v∈ys,(V.str∘fun v=>match v with | .str z=>z | _=>"") v=v:=fun v hv=>by
    obtain⟨z,_,rfl⟩:=List.mem_map.mp (h.mem_iff.mp hv)
    rfl
   rw[List.map_congr_left this]
   simp
 have:=h.map fun v=>match v with | .str z=>z | _=>("":Str)
 rw[List.map_map] at this
 have e:ns.map ((fun v=>match v with | .str z=>z | _=>("":Str))∘V.str)=ns:=by
  rw[show((fun v=>match v with | .str z=>z | _=>("":Str))∘V.str)=id from rfl,List.map_id]
 rw[e] at this
 exact this
theorem My {f:Addr}{fd:FuncData}(F:Fun K "_law_half" "_law_half" Cp f fd)(T:Hc mg)(c__law_draw:Fnd P w K mg base 1 "_law_draw" ["_law_feed_here","_law_many"] (Bl K))(c__law_names:Fnd P w K mg base 2 "_law_names" ["_law_feed_here","_law_many"] (Do K))(c__law_shuffled:Fnd P w K mg base 2 "_law_shuffled" ["_law_feed_here","_law_some"] (C0 K))(c__law_sayings:Fnd P w K mg base 3 "_law_sayings" ["_law_feed_here","_law_line"] (Dz K)):FnOk P w K mg base CX0 4 f fd ["_law_feed_here","_law_most"] (Fv K):=by
 refine F.ok Hq (fun vs H Q E h=>?_) (fun cdv A outer s H vs Q E hr h=>?_)
 . obtain⟨d,l,n,rfl,_⟩:=h
   rfl
 obtain⟨d,l,n,rfl,hF,h0,h10,k⟩:=h
 have hu:=Cm hr
 have hq:=Cu hr
 with_reducible refine⟨_,(A3 (Ab (i:=2) Hq.nd (by ac_nf) (by eq_refl) (As c__law_names (hr.mono (by decide)) (by ac_nf) (A1 (pv 0) (A1 (As c__law_draw (hr.mono (by decide)) (by ac_nf) (A1 (pv 0) (A1 (Ag (Ad (K:=K)) (pv 1) A5) A2))) A2))))
  (A7 (B6 (Bm (A1 (Au (Cw (K:=K)) (by ac_nf) T.b_tuple PyProof.Rows.Boot.«tuple» (A1 (pv 2) A2)) (A1 (As c__law_sayings (hr.mono (by decide)) (by ac_nf) (A1 (pv 0) (A1 (As c__law_shuffled (hr.mono (by decide)) (by ac_nf) (A1 (pv 0) (A1 (pv 2) A2))) A2))) A2)))))),?_⟩
 walk_at "rd"
 refine⟨d,l,_,rfl,hF,by omega,by omega,fun u H1 hu0 hu1 e1 hF1=>?_⟩
 walk_at "rd"
 refine⟨d,l,_,rfl,hF1,by omega,by omega,fun p2 ns H2 hp2 e2 hF2 h2 hN hl=>?_⟩
 walk_at "rd"
 refine Ii (SqL.of h2) fun t3 H3 ht3 e3 h3=>?_
 have hF3:=hF2.same e3
 have hI3:Is K H3 (nmD ns) (.ref t3):=Mq (SqT.of h3)
 walk_at "rd"
 refine⟨d,l,p2,_,rfl,hF3,.inl (SqL.of (e3 _ _ h2)),by rw[List.length_map];omega,fun p4 ys4 H4 hp4 e4 hF4 h4 hperm=>?_⟩
 obtain⟨ls,rfl,hpm⟩:=M7 hperm
 have fz4:=hF3.fz e4
 walk_at "rd"
 refine⟨d,l,p4,ls,rfl,hF4,h4,by rw[hpm.length_eq];omega,fun v5 ps H5 e5 hF5 hI5 hU hl5=>?_⟩
 have fz5:=hF4.fz e5
 walk_at "rd"
 refine Bn (Ac (by simp)) fun t6 H6 ht6 e6 h6=>?_
 exact k (.ref t6) ns ps H6 (by walk_at "fr") (by walk_at "fd") (aa4 (SqT.of h6) (hI3.nm_fz ((fz4.trans fz5).trans e6.fz)) (hI5.ps_fz e6.fz)) (a42 hN (by omega) hpm hU hl5) (by omega)
def Cy (K:PySem.W.Frag):Sp:=fun vs H Q _=>∃ v ns ps,vs=[v]/\Is K H (hfD ns ps) v/\Ko ns ps/\∀ r as H',H r=none->(∀ a∈as,H a=none)->Same H H'->Tab H' r ns as (Way ps)->Q (.ref r) H'
theorem K1 {f:Addr}{fd:FuncData}(F:Fun K "behind_each" "behind_each" Bw f fd)(T:Hc mg):FnOk P w K mg base CX0 1 f fd ["half"] (Cy K):=by
 refine F.ok Bp (fun vs H Q E h=>?_) (fun cdv A outer s H vs Q E hr h=>?_)
 . obtain⟨v,ns,ps,rfl,_⟩:=h
   rfl
 obtain⟨v,ns,ps,rfl,hI,hW,k⟩:=h
 have hu:=Cm hr
 have hq:=Cu hr
 have hn:=hW.nd
 have hfew:=hW.few
 with_reducible refine⟨_,(A3 (Ab (i:=1) Bp.nd (by ac_nf) (by eq_refl) (Ah (A6 (K:=K) hu) (pv 0) A5 (by ac_rfl)))
  (A3 (Ab (i:=2) Bp.nd (by ac_nf) (by eq_refl) (Au (Hj (K:=K) hr.hd) (by ac_nf) T.b_dict PyProof.Rows.Boot.«dict» (A1 (Br ["name"] [] [] (by ac_nf) (by ac_nf) (by ac_nf) (Ak (K:=K) hu (pv 1)) (fun _ _ _ _=>(A8 (i:=0) (by with_unfolding_all (show(["name"]:List Str).Nodup;decide +kernel)) (by ac_nf) (by eq_refl))) (B7 (by decide)) (fun _ _ _ _=>Dl) (fun _ _ _ _=>(Bm (A1 (pv 0) (A1 Ku A2))))) A2)))
  (A3 (Bs PassesOwn.never (by ac_nf) (Ak (K:=K) hu (Ah (A6 (K:=K) hu) (pv 0) A5 (by ac_rfl))) (A8 (i:=3) Bp.nd (by ac_nf) (by eq_refl))
  (A7 (Eg hu (Ah (A6 (K:=K) hu) (pv 2) (Ah (A6 (K:=K) hu) (pv 3) A5 (by ac_rfl)) (by ac_rfl)) (Ah (A6 (K:=K) hu) (pv 3) A5 (by ac_rfl)) af9 (by ac_nf))))
  (A3 (Bs PassesOwn.never (by ac_nf) (Ak (K:=K) hu (pv 1)) (A8 (i:=4) Bp.nd (by ac_nf) (by eq_refl))
  (A7 (Bs PassesOwn.never (by ac_nf) (Ak (K:=K) hu (pv 1)) (A8 (i:=5) Bp.nd (by ac_nf) (by eq_refl))
  (A7 (G8 (Ar (Nn (K:=K) hq) (pv 4) (Ah (A6 (K:=K) hu) (pv 2) (pv 5) (by ac_rfl)) (by ac_nf)) (A7 (Ei (Gd (K:=K) PySem.F.plainAttrs_dict PySem.F.slot_dict_update PySem.F.type_dict_update (mm Ra) (Ah (A6 (K:=K) hu) (pv 2) (pv 5) (by ac_rfl)) (A1 (Ah (A6 (K:=K) hu) (pv 2) (pv 4) (by ac_rfl)) A2)))) By)))))
  (A7 (B6 (pv 2))))))),?_⟩
 walk_at "rd"
 refine Ga hI fun nv hN=>?_
 walk_at "rd"
 obtain⟨na,rfl,hS⟩:=hN.nm
 refine Oh hS ?_
 refine Gg (Et (xs:=ns.map V.str)) (fun p i acc H1=>Same H H1/\∃ as:List Addr,as.length=i/\as.Nodup/\(∀ a∈as,H1 a=some (.dK [])/\H a=none)/\PrsK K H1 (Lk (ns.take i) as) acc) (fun p H' hp e h=>⟨e,[],rfl,by simp,fun _ h=>(by cases h),by rfl⟩) (fun p i acc H1 hP=>hP.1.seqT hS) (fun p i x acc H1 hp hx hi hl ha hP=>?_) fun p acc H1 hp ha hl hP=>?_
 . obtain ⟨e1,as,hal,had,haf,hpr⟩:=hP
   rw[List.getElem?_map] at hx
   cases hz:ns[i]? with
   | none=>rw[hz] at hx;cases hx
   | some z=>
     rw[hz] at hx
     cases hx
     have hin:i<ns.length:=(List.getElem?_eq_some_iff.mp hz).1
     walk_at "rd"
     refine Vd fun b H2 hb2 e2 h2=>?_
     walk_at "rd"
     refine Bn (Ac (by simp)) fun t H3 ht3 e3 h3=>?_
     have h3p:H3 p=some (.lst acc):=e3 _ _ (e2 _ _ ha)
     refine Je (by rw[List.length_map];omega) hi hl h3p fun H4 e4 h4=>?_
     have hbp:b≠p:=Ne.symm (ne_of_none ha hb2)
     refine⟨by walk_at "sm",as++[b],by simp[hal],?_,fun a ha'=>?_,?_⟩
     . rw[List.nodup_append]
       refine⟨had,by simp,fun a ha1 c hc e=>?_⟩
       have:c=b:=by simpa using hc
       subst this
       subst e
       have:=(haf _ ha1).1
       rw[hb2] at this
       cases this
     . rcases List.mem_append.mp ha' with ha' | ha'
       . obtain⟨q1,q2⟩:=haf a ha'
         exact⟨e4 _ _ (ne_of q1 ha (by intro z;cases z)) (e3 _ _ (e2 _ _ q1)),q2⟩
       have:a=b:=by simpa using ha'
       subst this
       exact⟨e4 _ _ hbp (e3 _ _ h2),e1.free hb2⟩
     have ht:ns.take (i+1)=ns.take i++[z]:=by rw[List.take_add_one,hz];rfl
     have hlen:(ns.take i).length=as.length:=by rw[List.length_take,hal];omega
     rw[ht,Qn hlen]
     have fz4:=e4.fzL h3p
     exact PrsK.snoc (kv:=(Sum.inr z,V.ref b)) (fz4.seq (SqT.of h3)) (PrsK.fz ((e2.fz.trans e3.fz).trans fz4) hpr)
 obtain⟨e1,as,hal,had,haf,hpr⟩:=hP
 rw[List.length_map] at hal
 rw[List.length_map,List.take_length] at hpr
 walk_at "rd"
 refine Vo ha hpr (by unfold Lk;rw[List.length_map,List.length_zip];omega) fun r H2 hr2 e2 h2=>?_
 rw[Gw _ _ (Ln hn) (fun _ _ _ h=>by cases h),List.nil_append] at h2
 have hr0:H r=none:=e1.free hr2
 have hra:r∉as:=fun hm=>by
  have:=(haf r hm).1
  rw[hr2] at this
  cases this
 have hT0:Tab H2 r ns as (fun z y=>(z,y)∈ps.take 0):=⟨hal,had,hra,h2,fun i z a hz ha'=>⟨[],e2 _ _ (haf a (List.mem_of_getElem? ha')).1,by simp,fun _ h=>(by cases h),fun y=>by simp⟩⟩
 walk_at "rd"
 refine ac4 (hI.hf_fz (by walk_at "fz")) fun pv hP2=>?_
 refine ac9 hP2 (fun i σ H3=>∃ x3,σ=[some v,some (.ref na),some (.ref r),x3,none,none]/\Same H H3/\Fz H2 H3/\Tab H3 r ns as (fun z y=>(z,y)∈ps.take i))
  ⟨none,rfl,by walk_at "sm",.refl _,hT0⟩ (fun i σ' H' hP=>hP.choose_spec.2.2.1) (fun i pr w σ' H3 hpr hIp hP=>?_) (fun σ' H3 hP=>?_)
 . obtain⟨x3,rfl,e3,fz3,hT⟩:=hP
   have hpm:=hW.mem pr (List.mem_of_getElem? hpr)
   obtain⟨j,a,hj,haj⟩:=hT.at hpm.1
   obtain⟨ks,hk1,hk2,hk3,hk4⟩:=hT.row j _ a hj haj
   have hkl:ks.length<=ns.length:=Ef hk2 hk3
   walk_at "rd"
   refine Sr hIp ?_
   refine Op hT hn hj haj ?_
   walk_at "rd"
   refine Vm hIp ?_
   refine Gv hk1 (by rw[Ol];omega) fun H4 e4 h4=>?_
   rw[Uz] at h4
   walk_at "rd"
   have ha0:H a=none:=(haf a (List.mem_of_getElem? haj)).2
   refine⟨_,rfl,by walk_at "sm",fz3.trans (e4.fzD hk1),hT.put e4 hn hj haj h4 (Kc hk2) (fun y hy=>?_) (fun y=>?_) (fun z hz hzx y=>?_)⟩
   . rcases mem_addK.mp hy with hy | rfl
     . exact hk3 y hy
     exact hpm.2
   . rw[mem_addK,hk4,List.take_add_one,hpr,List.mem_append]
     constructor
     . rintro(h | rfl)
       . exact .inl h
       exact .inr (by simp)
     rintro(h | h)
     . exact .inl h
     right
     have:(pr.1,y)=pr:=by simpa using h
     rw[<- this]
   rw[List.take_add_one,hpr,List.mem_append]
   constructor
   . exact .inl
   rintro(h | h)
   . exact h
   have:(z,y)=pr:=by simpa using h
   exact absurd (by rw[<- this]) hzx
 obtain⟨x3,rfl,e3,fz3,hT⟩:=hP
 rw[List.take_length] at hT
 have hW0:War ns ps [] (fun z y=>(z,y)∈ps):=⟨fun z y h=>.one h,fun z y h=>h,fun m hm=>by cases hm⟩
 walk_at "rd"
 have hN3:Is K H3 (nmD ns) (.ref na):=hN.nm_fz e3.fz
 refine Kj hN3 (fun i σ H4=>∃ x4 x5 R,σ=[some v,some (.ref na),some (.ref r),x3,x4,x5]/\Same H H4/\Fz H3 H4/\Tab H4 r ns as R/\War ns ps (ns.take i) R)
  ⟨_,_,_,rfl,e3,.refl _,hT,hW0⟩ (fun i σ' H' hP=>?_) (fun i mid σ' H4 hmid hP=>?_) (fun σ' H4 hP=>?_)
 . obtain⟨_,_,_,_,_,fz,_⟩:=hP
   exact fz
 . obtain⟨x4,x5,R,rfl,e4,fz4,hT4,hR⟩:=hP
   obtain⟨jm,am,hjm,ham⟩:=hT4.at (List.mem_of_getElem? hmid)
   have hN4:Is K H4 (nmD ns) (.ref na):=hN3.nm_fz fz4
   walk_at "rd"
   refine Kj hN4 (fun j σ H5=>∃ x5,σ=[some v,some (.ref na),some (.ref r),x3,some (.str mid),x5]/\Same H H5/\Fz H4 H5/\Tab H5 r ns as (Y2 R mid (ns.take j)))
    ⟨_,rfl,e4,.refl _,hT4.congr fun z _ y=>⟨.inl,fun h=>h.elim (fun q=>q) fun q=>absurd q.1 (by simp)⟩⟩ (fun i σ' H' hP=>hP.choose_spec.2.2.1) (fun j nm σ' H5 hnm hP=>?_) (fun σ' H5 hP=>?_)
   . obtain⟨x5',rfl,e5,fz5,hT5⟩:=hP
     obtain⟨jn,an,hjn,han⟩:=hT5.at (List.mem_of_getElem? hnm)
     obtain⟨ks,hk1,hk2,hk3,hk4⟩:=hT5.row jn nm an hjn han
     obtain⟨ms,hm1,hm2,hm3,hm4⟩:=hT5.row jm mid am hjm ham
     have hkl:ks.length<=ns.length:=Ef hk2 hk3
     have hml:ms.length<=ns.length:=Ef hm2 hm3
     have htj:ns.take (j+1)=ns.take j++[nm]:=by rw[List.take_add_one,hnm];rfl
     have hin:mid∈ks↔R nm mid:=(hk4 mid).trans ⟨fun h=>h.elim (fun q=>q) fun q=>q.2.1,.inl⟩
     have hmid2:∀ y,y∈ms↔R mid y:=fun y=>(hm4 y).trans ⟨fun h=>h.elim (fun q=>q) fun q=>q.2.2,.inl⟩
     have hother:∀ z∈ns,z≠nm->∀ y,Y2 R mid (ns.take j) z y↔Y2 R mid (ns.take (j+1)) z y:=fun z _ hz y=>by
      unfold Y2
      rw[htj,List.mem_append,List.mem_singleton]
      simp[hz]
     walk_at "rd"
     refine Op hT5 hn hjn han ?_
     refine Vs hk1 ?_
     walk_at "rd"
     refine Nt (fun hc=>?_) (fun hc=>?_)
     . have hRn:=hin.mp hc
       by_cases hne:nm=mid
       . subst hne
         have hji:jn=jm:=by
          obtain⟨p1,p2⟩:=List.getElem?_eq_some_iff.mp hjn
          obtain⟨q1,q2⟩:=List.getElem?_eq_some_iff.mp hjm
          exact(List.getElem_inj hn).mp (p2.trans q2.symm)
         subst hji
         rw[han] at ham
         cases ham
         walk_at "rd"
         refine Op hT5 hn hjn han ?_
         refine a41 hk1 ?_
         walk_at "rd"
         refine Op hT5 hn hjn han ?_
         walk_at "rd"
         refine a81 hk1 ?_
         walk_at "rd"
         refine⟨_,rfl,e5,fz5,hT5.congr fun z hz y=>?_⟩
         by_cases hzn:z=nm
         . subst hzn
           unfold Y2
           constructor
           . exact fun h=>.inl (h.elim (fun q=>q) fun q=>q.2.2)
           exact fun h=>.inl (h.elim (fun q=>q) fun q=>q.2.2)
         exact hother z hz hzn y
       have hane:an≠am:=fun q=>by
        subst q
        obtain⟨p1,p2⟩:=List.getElem?_eq_some_iff.mp han
        obtain⟨q1,q2⟩:=List.getElem?_eq_some_iff.mp ham
        have:=(List.getElem_inj hT5.nd).mp (p2.trans q2.symm)
        subst this
        rw[hjn] at hjm
        exact hne (Option.some.inj hjm)
       walk_at "rd"
       refine Op hT5 hn hjn han ?_
       refine a41 hk1 ?_
       walk_at "rd"
       refine Op hT5 hn hjm ham ?_
       walk_at "rd"
       refine ag3 hk1 hm1 hane (by omega) fun H6 e6 h6=>?_
       walk_at "rd"
       have ha0:H an=none:=(haf an (List.mem_of_getElem? han)).2
       refine⟨_,rfl,by walk_at "sm",fz5.trans (e6.fzD hk1),hT5.put e6 hn hjn han h6 (Ht hk2) (fun y hy=>?_) (fun y=>?_) hother⟩
       . rcases mem_addAll.mp hy with hy | hy
         . exact hk3 y hy
         exact hm3 y hy
       rw[mem_addAll,hk4,hmid2]
       unfold Y2
       rw[htj,List.mem_append,List.mem_singleton]
       constructor
       . rintro((h | h) | h)
         . exact .inl h
         . exact .inr ⟨.inl h.1,h.2⟩
         exact .inr ⟨.inr rfl,hRn,h⟩
       rintro(h | h)
       . exact .inl (.inl h)
       exact .inr h.2.2
     have hRn:¬ R nm mid:=fun q=>hc (hin.mpr q)
     walk_at "rd"
     refine⟨_,rfl,e5,fz5,hT5.congr fun z hz y=>?_⟩
     by_cases hzn:z=nm
     . subst hzn
       unfold Y2
       constructor
       . exact fun h=>.inl (h.elim (fun q=>q) fun q=>absurd q.2.1 hRn)
       exact fun h=>.inl (h.elim (fun q=>q) fun q=>absurd q.2.1 hRn)
     exact hother z hz hzn y
   obtain⟨x5',rfl,e5,fz5,hT5⟩:=hP
   rw[List.take_length] at hT5
   refine⟨_,_,_,rfl,e5,fz4.trans fz5,hT5.congr (R':=fun z y=>R z y\/(R z mid/\R mid y)) fun z hz y=>?_,?_⟩
   . unfold Y2
     simp[hz]
   have htj:ns.take (i+1)=ns.take i++[mid]:=by rw[List.take_add_one,hmid];rfl
   rw[htj]
   exact hR.step
 obtain⟨x4,x5,R,rfl,e4,fz4,hT4,hR⟩:=hP
 rw[List.take_length] at hR
 walk_at "rd"
 exact k r as H4 hr0 (fun a ha'=>(haf a ha').2) e4 (hT4.congr fun z _ y=>hR.done hW.mem z y)
def Ex (K:PySem.W.Frag):Sp:=fun vs H Q _=>∃ r x y ns ps as,vs=[.ref r,.str x,.str y]/\TabR H r ns as (Way ps)/\ns.Nodup/\x∈ns/\y∈ns/\Q (.bl (unB ps x y)) H
def Fw (K:PySem.W.Frag):Sp:=fun vs H Q _=>∃ r ns ps as,vs=[.ref r]/\Tab H r ns as (Way ps)/\ns.Nodup/\ns.length<=100/\∀ u H',Same H H'->Is K H' (psD (unP ns ps)) u->Q u H'
theorem Qt:∀ {ns:List Str} {as:List Addr},as.length=ns.length->(Lk ns as).map (fun kv=>kV kv.1)=ns.map V.str
 | [],[],_=>rfl
 | [],_ :: _,h=>by simp at h
 | _ :: _,[],h=>by simp at h
 | n :: ns,a :: as,h=>by
   have ih:=Qt (ns:=ns) (as:=as) (by simpa using h)
   unfold Lk at ih ⊢
   rw[List.zip_cons_cons,List.map_cons,List.map_cons,ih]
   rfl
def Jr (K:PySem.W.Frag):Sp:=fun vs H Q _=>∃ v ns ps,vs=[v]/\Is K H (hfD ns ps) v/\HalfW ns ps/\∀ u H',Same H H'->Is K H' (psD (unP ns ps)) u->Q u H'
theorem Ld {f:Addr}{fd:FuncData}(F:Fun K "are_untold" "are_untold" Ce f fd)(T:Hc mg):FnOk P w K mg base CX0 1 f fd ["reach","one","other"] (Ex K):=by
 refine F.ok Lw (fun vs H Q E h=>?_) (fun cdv A outer s H vs Q E hr h=>?_)
 . obtain⟨r,x,y,ns,ps,as,rfl,_⟩:=h
   rfl
 obtain⟨r,x,y,ns,ps,as,rfl,hT,hn,hx,hy,k⟩:=h
 have hu:=Cm hr
 have hq:=Cu hr
 obtain⟨i,a,hi,hai⟩:=hT.at hx
 obtain⟨ks,hk1,hk2,hk3,hk4⟩:=hT.row i x a hi hai
 obtain⟨j,b,hj,hbj⟩:=hT.at hy
 obtain⟨ms,hm1,hm2,hm3,hm4⟩:=hT.row j y b hj hbj
 with_reducible refine⟨_,(A7 (B6 (Yv (Hn (Fx (K:=K) hq) (pv 2) (Ah (A6 (K:=K) hu) (pv 0) (pv 1) (by ac_rfl)) (by ac_nf)) (Xs (Hn (Fx (K:=K) hq) (pv 1) (Ah (A6 (K:=K) hu) (pv 0) (pv 2) (by ac_rfl)) (by ac_nf)))))),?_⟩
 walk_at "rd"
 refine Y3 hT hn hi hai ?_
 refine Me hk1 ?_
 rw[Lq (hk4 y)]
 walk_at "rd"
 refine Rt (fun hc=>?_) (fun hc=>?_)
 . walk_at "rd"
   refine Y3 hT hn hj hbj ?_
   refine Me hm1 ?_
   rw[Lq (hm4 x)]
   unfold unB at k
   rw[hc] at k
   exact k
 unfold unB at k
 rw[hc] at k
 exact k
theorem Ms {f:Addr}{fd:FuncData}(F:Fun K "untold_of" "untold_of" Cr f fd)(T:Hc mg)(c_are_untold:Fnd P w K mg base 1 "are_untold" ["reach","one","other"] (Ex K)):FnOk P w K mg base CX0 2 f fd ["reach"] (Fw K):=by
 refine F.ok Dg (fun vs H Q E h=>?_) (fun cdv A outer s H vs Q E hr h=>?_)
 . obtain⟨r,ns,ps,as,rfl,_⟩:=h
   rfl
 obtain⟨r,ns,ps,as,rfl,hT,hnd,hfew,k⟩:=h
 have hu:=Cm hr
 have hq:=Cu hr
 with_reducible refine⟨_,(A3 (Ab (i:=1) Dg.nd (by ac_nf) (by eq_refl) (Au (K9 (by ac_nf)) (by ac_nf) T.b_list PyProof.Rows.Boot.«list» (A1 (pv 0) A2)))
  (A3 (Ab (i:=2) Dg.nd (by ac_nf) (by eq_refl) (Cd A2))
  (A3 (Bs PassesOwn.never (by ac_nf) (Ws (K:=K) (by ac_nf) T.b_enumerate (A1 (pv 1) A2)) (J5 (K:=K) (n:=2) (by ac_nf) (Db (A8 (i:=3) Dg.nd (by ac_nf) (by eq_refl)) (Db (A8 (i:=4) Dg.nd (by ac_nf) (by with_unfolding_all exact Or.inr rfl)) J9)))
  (A7 (Ei (Gd (K:=K) PySem.F.plainAttrs_list PySem.F.slot_list_extend PySem.F.type_list_extend (mm Iz) (pv 2) (A1 (Br ["other"] ["one","reach"] [4,0] (by ac_nf) (by ac_nf) (by ac_nf) (Ak (K:=K) hu (Ay (Le (K:=K)) (pv 1) (B4 (Ag (Ad (K:=K)) (pv 3) A5)) C3)) (fun _ _ _ _=>(A8 (i:=0) (by with_unfolding_all (show(["other","one","reach"]:List Str).Nodup;decide +kernel)) (by ac_nf) (by eq_refl))) (B7 (by decide)) (fun _ _ _ _=>(Di (Yt (As c_are_untold (hr.mono (by decide)) (by ac_nf) (A1 (pv 2) (A1 (pv 1) (A1 (pv 0) A2))))))) (fun _ _ _ _=>(Bm (A1 (pv 1) (A1 (pv 0) A2))))) A2)))))
  (A7 (B6 (Au (Cw (K:=K)) (by ac_nf) T.b_tuple PyProof.Rows.Boot.«tuple» (A1 (pv 2) A2))))))),?_⟩
 walk_at "rd"
 refine So hT.top (by unfold Lk;rw[List.length_map,List.length_zip];omega) fun q H1 hq1 e1 h1=>?_
 rw[Qt hT.len] at h1
 walk_at "rd"
 refine Cb (Ac (by simp)) fun p H2 hp2 e2 h2=>?_
 have hpq:q≠p:=ne_of_none h1 hp2
 walk_at "rd"
 refine Vj (SqL.of (e2 _ _ h1)) (fun i σ H3=>∃ x3 x4,σ=[some (.ref r),some (.ref q),some (.ref p),x3,x4]/\Same H1 H3/\Fz H2 H3/\∃ ys,H3 p=some (.lst ys)/\IsL K H3 ((unK ns ps i).map prD) ys)
  ⟨none,none,rfl,e2,.refl _,[],h2,.nil⟩ (fun i σ' H' hP=>?_) (fun i x σ' H3' H3 hx hP e33=>?_) (fun σ' H3 hP=>?_)
 . obtain⟨_,_,_,es,_⟩:=hP
   exact SqL.of (es _ _ h1)
 . obtain⟨x3,x4,rfl,e3',fz3',ys,h3',hL'⟩:=hP
   obtain⟨z,hz,rfl⟩:∃ z,ns[i]? = some z/\x = .str z:=by
    rw[List.getElem?_map] at hx
    cases g:ns[i]? with
    | none=>rw[g] at hx;cases hx
    | some z=>rw[g] at hx;cases hx;exact⟨z,rfl,rfl⟩
   have e3:=e3'.trans e33
   have fz3:=fz3'.trans e33.fz
   have h3:=e33 _ _ h3'
   have hL:=IsL.mono e33 _ _ hL'
   have hzm:=List.mem_of_getElem? hz
   have hin:i<ns.length:=(List.getElem?_eq_some_iff.mp hz).1
   have hly:ys.length<=i*ns.length:=by
    rw[<- IsL.length hL,List.length_map]
    exact a30 ns ps i
   have hly2:i*ns.length<=100*100:=Nat.mul_le_mul (by omega) hfew
   walk_at "rd"
   refine Gj (SqL.of (e3 _ _ h1)) fun t H4 ht4 e4 h4=>?_
   rw[show((i:Int)+1)=(((i+1:Nat)):Int) from rfl,X9 (by omega)] at h4
   refine Ik (SqL.of h4) (fun y=>unB ps z y) (fun y=>prD (z,y)) (fun _=>Hd _) (by rw[List.length_drop];omega) (fun j y H5 R R' hy e5 hR hR'=>?_) (fun q5 zs H5 hq5 e5 h5 hL5=>?_)
   . have hT5:=hT.same (((e1.trans e3).trans e4).trans e5)
     walk_at "rd"
     refine⟨r,z,y,ns,ps,as,rfl,hT5.toR,hnd,hzm,List.mem_of_mem_drop (List.mem_of_getElem? hy),?_⟩
     walk_at "rd"
     refine af0 (fun hc=>?_) (fun hc=>?_)
     . walk_at "rd"
       refine Bn (Ac (by simp)) fun t H6 ht6 e6 h6=>?_
       exact hR hc _ _ e6 (Ny (SqT.of h6))
     exact hR' hc _ (Same.refl _)
   walk_at "rd"
   have h5p:=e5 _ _ (e4 _ _ h3)
   have hlz:zs.length<=ns.length:=by
    rw[<- IsL.length hL5,List.length_map]
    exact Nat.le_trans (List.length_filter_le _ _) (by rw[List.length_drop];omega)
   refine T3 h5p h5 (by omega) fun H6 e6 h6=>?_
   walk_at "rd"
   have fz6:Fz H5 H6:=e6.fzL h5p
   refine⟨_,_,rfl,?_,((fz3.trans e4.fz).trans e5.fz).trans fz6,_,h6,?_⟩
   . exact Same.off (q:=p) (H1:=H5) ((e3.trans e4).trans e5) hp2 e6
   rw[Wr,List.map_append]
   refine IsL.append (IsL.fz ((e4.fz.trans e5.fz).trans fz6) _ _ (Bv _) hL) ?_
   have e:(unR ns ps i).map prD=((ns.drop (i+1)).filter fun y=>unB ps z y).map fun y=>prD (z,y):=by
    unfold unR
    rw[Oo hz,List.map_map]
    rfl
   rw[e]
   exact IsL.fz fz6 _ _ (Dn _ (fun _=>Hd _) _) hL5
 obtain⟨x3,x4,rfl,e3,fz3,ys,h3,hL⟩:=hP
 rw[List.length_map] at hL
 walk_at "rd"
 exact Pd h3 hL fun u H4 e4 hu4=>k u H4 ((e1.trans e3).trans e4) hu4
theorem Sg {f:Addr}{fd:FuncData}(F:Fun K "untold" "untold" Fy f fd)(T:Hc mg)(c_behind_each:Fnd P w K mg base 1 "behind_each" ["half"] (Cy K))(c_untold_of:Fnd P w K mg base 2 "untold_of" ["reach"] (Fw K)):FnOk P w K mg base CX0 3 f fd ["half"] (Jr K):=by
 refine F.ok Wk (fun vs H Q E h=>?_) (fun cdv A outer s H vs Q E hr h=>?_)
 . obtain⟨v,ns,ps,rfl,_⟩:=h
   rfl
 obtain⟨v,ns,ps,rfl,hI,hW,k⟩:=h
 have hu:=Cm hr
 have hq:=Cu hr
 with_reducible refine⟨_,(A7 (B6 (As c_untold_of (hr.mono (by decide)) (by ac_nf) (A1 (As c_behind_each (hr.mono (by decide)) (by ac_nf) (A1 (pv 0) A2)) A2)))),?_⟩
 walk_at "rd"
 refine⟨v,ns,ps,rfl,hI,hW.c,fun r as H1 hr1 ha1 e1 hT=>?_⟩
 walk_at "rd"
 exact⟨r,ns,ps,as,rfl,hT,hW.nd,hW.few,fun u H2 e2 hU=>k u H2 (e1.trans e2) hU⟩
def Hi (K:PySem.W.Frag):Sp:=fun vs H Q _=>∃ v ns,vs=[v]/\Is K H (nmD ns) v/\ns.Nodup/\ns.length<=10/\∀ d H',H d=none->Same H H'->H' d=some (.dK (a54 ns))->Q (.ref d) H'
def Ez (K:PySem.W.Frag):Sp:=fun vs H Q _=>∃ v bd ns ps,vs=[v,.ref bd]/\Is K H (hfD ns ps) v/\Ko ns ps/\ns.length<=10/\H bd=some (.dK (a54 ns))/\∀ d H',H d=none->Same H H'->H' d=some (.dK (ahK ns ps))->Q (.ref d) H'
def Fl (C:Addr)(K:PySem.W.Frag):Sp:=fun vs H Q _=>∃ p v dx ns ps,vs=[.ref p,v]/\H p=some (.ins C dx [])/\Is K H (hfD ns ps) v/\Ko ns ps/\ns.length<=10 /\
 ∀ nv bd ad kd H',H kd=none->ExtBut p H H'->WaysAt K C H' p dx nv bd ad kd ns ps (knK ns ps [fun _=>false])->Q .non H'
def At (C:Addr)(K:PySem.W.Frag):Sp:=fun vs H Q _=>∃ p dx nv bd ad kd ns ps q,vs=[.ref p,.int ((Ao ns q:Nat):Int)]/\WaysB K C H p dx nv bd ad kd ns ps/\Ko ns ps/\ns.length<=10 /\
 ∀ l H',H l=none->Same H H'->H' l=some (.lst ((frF (Ae ps) (ns.filter q)).map V.str))->Q (.ref l) H'
def Bo (C:Addr)(K:PySem.W.Frag)(n:Nat):Sp:=fun vs H Q _=>∃ p dx nv bd ad kd ns ps qs q,vs=[.ref p,.int ((Ao ns q:Nat):Int)]/\WaysAt K C H p dx nv bd ad kd ns ps (knK ns ps qs)/\Ko ns ps/\ns.length<=10/\(ns.filter q).length<n /\
 ∀ qs' H',ExtBut kd H H'->WaysAt K C H' p dx nv bd ad kd ns ps (knK ns ps qs')->Gr ns ps qs qs' q->Q (.int ((cnt (Ae ps) (ns.filter q):Nat):Int)) H'
def Dx (C:Addr)(K:PySem.W.Frag):Sp:=Bo C K 11
theorem Fp {C:Addr}{K:PySem.W.Frag}:∀ vs H Q E,¬ Bo C K 0 vs H Q E:=by
 rintro vs H Q E ⟨_,_,_,_,_,_,_,_,_,_,_,_,_,_,h,_⟩
 exact absurd h (Nat.not_lt_zero _)
theorem Y5 {ns:List Str}(hn:ns.Nodup)(h:ns.length<=10){x:Str}(hx:x∈ns):De ns x<=1024:=by
 obtain⟨j,hj⟩:=List.mem_iff_getElem?.mp hx
 rw[J1 hn hj]
 exact(Nat.pow_le_pow_right (by decide) (by have:=(List.getElem?_eq_some_iff.mp hj).1;omega):2 ^ j<=2 ^ 10)
theorem Eh {f g:Str}{v x:V}{r:List (Str×V)}(h:¬ g=f):Ju f v ((g,x) :: r)=(g,x) :: Ju f v r:=by
 show(if g=f then _ else _)=_
 rw[if_neg h]
theorem fld2 (a b:V):Ju "bits" b [("names",a)]=([("names",a),("bits",b)]:List (Str×V)):=by
 rw[Eh (by decide +kernel)]
 rfl
theorem fld3 (a b c:V):Ju "ahead" c [("names",a),("bits",b)]=([("names",a),("bits",b),("ahead",c)]:List (Str×V)):=by
 rw[Eh (by decide +kernel),Eh (by decide +kernel)]
 rfl
theorem fld4 (a b c d:V):Ju "full" d [("names",a),("bits",b),("ahead",c)]=([("names",a),("bits",b),("ahead",c),("full",d)]:List (Str×V)):=by
 rw[Eh (by decide +kernel),Eh (by decide +kernel),Eh (by decide +kernel)]
 rfl
theorem fld5 (a b c d e:V):Ju "known" e [("names",a),("bits",b),("ahead",c),("full",d)]=([("names",a),("bits",b),("ahead",c),("full",d),("known",e)]:List (Str×V)):=by
 rw[Eh (by decide +kernel),Eh (by decide +kernel),Eh (by decide +kernel),Eh (by decide +kernel)]
 rfl
theorem Rh {f:Addr}{fd:FuncData}(F:Fun K "bits_of" "bits_of" El f fd)(T:Hc mg):FnOk P w K mg base CX0 1 f fd ["names"] (Hi K):=by
 refine F.ok En (fun vs H Q E h=>?_) (fun cdv A outer s H vs Q E hr h=>?_)
 . obtain⟨v,ns,rfl,_⟩:=h
   rfl
 obtain⟨v,ns,rfl,hI,hn,h10,k⟩:=h
 have hu:=Cm hr
 have hq:=Cu hr
 with_reducible refine⟨_,(A3 (Ab (i:=1) En.nd (by ac_nf) (by eq_refl) Ku)
  (A3 (Ab (i:=2) En.nd (by ac_nf) (by eq_refl) A5)
  (A3 (Bs PassesOwn.never (by ac_nf) (Ak (K:=K) hu (pv 0)) (A8 (i:=3) En.nd (by ac_nf) (by eq_refl))
  (A3 (Eg hu (pv 1) (pv 3) (pv 2) (by ac_nf))
  (A7 (Ab (i:=2) En.nd (by ac_nf) (by eq_refl) (Ag Ct (pv 2) A5)))))
  (A7 (B6 (pv 1)))))),?_⟩
 walk_at "rd"
 refine Vd fun d H1 hd1 e1 h1=>?_
 walk_at "rd"
 refine Kj (hI.nm_fz e1.fz) (fun i σ H2=>∃ x3,σ=[some v,some (.ref d),some (.int ((2 ^ i:Nat):Int)),x3]/\Same H H2/\Fz H1 H2/\H2 d=some (.dK ((ns.take i).map fun x=>((Sum.inr x:Key),V.int ((De ns x:Nat):Int)))))
  ⟨_,rfl,e1,.refl _,h1⟩ (fun i σ' H' hP=>hP.choose_spec.2.2.1) (fun i z σ' H2 hz hP=>?_) (fun σ' H2 hP=>?_)
 . obtain⟨x3,rfl,e2,fz2,h2⟩:=hP
   have hin:i<ns.length:=(List.getElem?_eq_some_iff.mp hz).1
   have hlt:2 ^ i<=2 ^ 10:=Nat.pow_le_pow_right (by decide) (by omega)
   have hno:z∉ns.take i:=fun hm=>by
    obtain⟨j,hj⟩:=List.mem_iff_getElem?.mp hm
    rw[List.getElem?_take] at hj
    split at hj
    . rename_i hji
      have a1:=List.getElem?_eq_some_iff.mp hj
      have a2:=List.getElem?_eq_some_iff.mp hz
      have:=(List.getElem_inj hn).mp (a1.2.trans a2.2.symm)
      omega
    cases hj
   walk_at "rd"
   refine Gv h2 (by rw[List.length_map,List.length_take];omega) fun H3 e3 h3=>?_
   rw[Gy _ (Fq hno)] at h3
   walk_at "rd"
   refine⟨some (.str z),?_,e2.off hd1 e3,fz2.trans (e3.fzD h2),?_⟩
   . have:((2 ^ i:Nat):Int)*2=((2 ^ (i+1):Nat):Int):=by rw[Nat.pow_succ];omega
     rw[this]
     rfl
   rw[h3,List.take_add_one,hz]
   have:((2 ^ i:Nat):Int)=((De ns z:Nat):Int):=by rw[J1 hn hz]
   rw[this]
   simp
 obtain⟨x3,rfl,e2,fz2,h2⟩:=hP
 rw[List.take_length] at h2
 walk_at "rd"
 exact k d H2 hd1 e2 h2
theorem La {f:Addr}{fd:FuncData}(F:Fun K "bits_ahead" "bits_ahead" Ca f fd)(T:Hc mg)(c_behind_each:Fnd P w K mg base 1 "behind_each" ["half"] (Cy K)):FnOk P w K mg base CX0 2 f fd ["half","bits"] (Ez K):=by
 refine F.ok Dm (fun vs H Q E h=>?_) (fun cdv A outer s H vs Q E hr h=>?_)
 . obtain⟨v,bd,ns,ps,rfl,_⟩:=h
   rfl
 obtain⟨v,bd,ns,ps,rfl,hI,hW,h10,hB,k⟩:=h
 have hu:=Cm hr
 have hq:=Cu hr
 have hn:=hW.nd
 with_reducible refine⟨_,(A3 (Ab (i:=2) Dm.nd (by ac_nf) (by with_unfolding_all exact Or.inr rfl) (As c_behind_each (hr.mono (by decide)) (by ac_nf) (A1 (pv 0) A2)))
  (A3 (Ab (i:=3) Dm.nd (by ac_nf) (by eq_refl) Ku)
  (A3 (Bs PassesOwn.never (by ac_nf) (Ak (K:=K) hu (Ah (A6 (K:=K) hu) (pv 0) A5 (by ac_rfl))) (A8 (i:=4) Dm.nd (by ac_nf) (by with_unfolding_all exact Or.inr rfl))
  (A7 (Eg hu (pv 3) (pv 4) (An (Ng (K:=K) (by ac_nf)) (by ac_nf) T.b_sum PyProof.Rows.Boot.«sum» (A1 (Br ["one"] ["bits","name","reach"] [1,4,2] (by ac_nf) (by ac_nf) (by ac_nf) (Ak (K:=K) hu (Ah (A6 (K:=K) hu) (pv 0) A5 (by ac_rfl))) (fun _ _ _ _=>(A8 (i:=0) (by with_unfolding_all (show(["one","bits","name","reach"]:List Str).Nodup;decide +kernel)) (by ac_nf) (by eq_refl))) (B7 (by decide)) (fun _ _ _ _=>(Di (Ar (Nn (K:=K) hq) (pv 2) (Ah (A6 (K:=K) hu) (pv 3) (pv 0) (by ac_rfl)) (by ac_nf)))) (fun _ _ _ _=>(Ah (A6 (K:=K) hu) (pv 1) (pv 0) (by ac_rfl)))) A2)) (by ac_nf))))
  (A7 (B6 (pv 3)))))),?_⟩
 walk_at "rd"
 refine⟨v,ns,ps,rfl,hI,hW,fun r as H1 hr1 ha1 e1 hT=>?_⟩
 walk_at "rd"
 refine Vd fun d H2 hd2 e2 h2=>?_
 walk_at "rd"
 have e12:=e1.trans e2
 refine Ga (hI.hf_fz e12.fz) fun nv hN=>?_
 refine Kj hN (fun i σ H3=>∃ x4,σ=[some v,some (.ref bd),some (.ref r),some (.ref d),x4]/\Same H1 H3/\Fz H2 H3/\H3 d=some (.dK ((ns.take i).map fun x=>((Sum.inr x:Key),V.int ((Ao ns (fun y=>Ae ps y x):Nat):Int)))))
  ⟨_,rfl,e2,.refl _,h2⟩ (fun i σ' H' hP=>hP.choose_spec.2.2.1) (fun i z σ' H3 hz hP=>?_) (fun σ' H3 hP=>?_)
 . obtain⟨x4,rfl,e3,fz3,h3⟩:=hP
   have hin:i<ns.length:=(List.getElem?_eq_some_iff.mp hz).1
   have hno:z∉ns.take i:=fun hm=>by
    obtain⟨j,hj⟩:=List.mem_iff_getElem?.mp hm
    rw[List.getElem?_take] at hj
    split at hj
    . rename_i hji
      have a1:=List.getElem?_eq_some_iff.mp hj
      have a2:=List.getElem?_eq_some_iff.mp hz
      have:=(List.getElem_inj hn).mp (a1.2.trans a2.2.symm)
      omega
    cases hj
   walk_at "rd"
   refine Ga (hI.hf_fz (e12.fz.trans fz3)) fun nv3 hN3=>?_
   refine L9 hN3 (fun y=>Ae ps y z) (fun y=>PyData.int ((De ns y:Nat):Int)) (fun _=>rfl) (by omega) (fun j y H4 R R' hy e4 hR hR'=>?_) (fun q ys H4 hq4 e4 h4 hL4=>?_)
   . have hT4:=hT.same (e3.trans e4)
     obtain⟨jy,ay,hjy,hay⟩:=hT4.at (List.mem_of_getElem? hy)
     obtain⟨ks,hk1,hk2,hk3,hk4⟩:=hT4.row jy y ay hjy hay
     walk_at "rd"
     refine Op hT4 hn hjy hay ?_
     refine Vs hk1 ?_
     rw[Lq (hk4 z)]
     walk_at "rd"
     refine af0 (fun hb=>?_) (fun hb=>?_)
     . walk_at "rd"
       refine i_ixD (e4 _ _ (e3 _ _ (e1 _ _ hB))) (Eb (List.mem_of_getElem? hy)) ?_
       exact hR hb _ _ (.refl _) rfl
     exact hR' hb _ (.refl _)
   have hm:(ns.filter fun y=>Ae ps y z).map (fun y=>PyData.int ((De ns y:Nat):Int))=((ns.filter fun y=>Ae ps y z).map fun y=>((De ns y:Nat):Int)).map PyData.int:=by rw[List.map_map];rfl
   rw[hm] at hL4
   have hys:=IsL.int_eq hL4
   subst hys
   walk_at "rd"
   refine ah1 (.inl (SqL.of h4)) (fun n hn'=>?_) (by rw[List.length_map];exact Nat.le_trans (List.length_filter_le _ _) (by omega)) ?_
   . obtain⟨y,hy,rfl⟩:=List.mem_map.mp hn'
     have hyn:=(List.mem_filter.mp hy).1
     have:=Y5 hn h10 hyn
     omega
   rw[Im,Ic _ hn]
   walk_at "rd"
   have h4d:H4 d=some _:=e4 _ _ h3
   refine Gv h4d (by rw[List.length_map,List.length_take];omega) fun H5 e5 h5=>?_
   rw[Gy _ (Fq hno)] at h5
   walk_at "rd"
   refine⟨_,rfl,(e3.trans e4).off hd2 e5,(fz3.trans e4.fz).trans (e5.fzD h4d),?_⟩
   rw[h5,List.take_add_one,hz]
   simp
 obtain⟨x4,rfl,e3,fz3,h3⟩:=hP
 rw[List.take_length] at h3
 walk_at "rd"
 exact k d H3 (e1.free hd2) (e1.trans e3) h3
theorem Na {f:Addr}{fd:FuncData}(F:Fun K "__init__" "Ways.__init__" Cs f fd)(T:Hc mg){C_Ways:Addr}(k_Ways:Ew K C_Ways)(c_bits_of:Fnd P w K mg base 1 "bits_of" ["names"] (Hi K))(c_bits_ahead:Fnd P w K mg base 2 "bits_ahead" ["half","bits"] (Ez K)):FnOk P w K mg base CX0 3 f fd ["self","half"] (Fl C_Ways K):=by
 refine F.ok Mi (fun vs H Q E h=>?_) (fun cdv A outer s H vs Q E hr h=>?_)
 . obtain⟨p,v,dx,ns,ps,rfl,_⟩:=h
   rfl
 obtain⟨p,v,dx,ns,ps,rfl,hp,hI,hW,h10,k⟩:=h
 have hu:=Cm hr
 have hq:=Cu hr
 have hn:=hW.nd
 with_reducible refine⟨_,(A3 (Ua (C:=C_Ways) (pv 0) (Ah (A6 (K:=K) hu) (pv 1) A5 (by ac_rfl)) k_Ways.cl k_Ways.n_names (by ac_nf))
  (A3 (Ua (C:=C_Ways) (pv 0) (As c_bits_of (hr.mono (by decide)) (by ac_nf) (A1 (Ah (A6 (K:=K) hu) (pv 1) A5 (by ac_rfl)) A2)) k_Ways.cl k_Ways.n_bits (by ac_nf))
  (A3 (Ua (C:=C_Ways) (pv 0) (As c_bits_ahead (hr.mono (by decide)) (by ac_nf) (A1 (pv 1) (A1 (Fo (C:=C_Ways) (pv 0) k_Ways.cl k_Ways.n_bits (by ac_nf)) A2))) k_Ways.cl k_Ways.n_ahead (by ac_nf))
  (A3 (Ua (C:=C_Ways) (pv 0) (An (Ub (by ac_nf)) (by ac_nf) T.b_sum PyProof.Rows.Boot.«sum» (A1 (a33 (K:=K) PySem.F.plainAttrs_dict PySem.F.slot_dict_values PySem.F.type_dict_values (mm T1) (Fo (C:=C_Ways) (pv 0) k_Ways.cl k_Ways.n_bits (by ac_nf))) A2)) k_Ways.cl k_Ways.n_full (by ac_nf))
  (A7 (Ua (C:=C_Ways) (pv 0) (Ov (G3 A5 A5 Oq) (by ac_nf) (by ac_nf) (by decide) (by decide)) k_Ways.cl k_Ways.n_known (by ac_nf))))))),?_⟩
 walk_at "rd"
 refine Ga hI fun nv hN=>?_
 walk_at "rd"
 refine ag1 hp (by decide) fun H1 e1 h1=>?_
 replace h1:H1 p=some (.ins C_Ways dx [("names",nv)]):=h1
 have fz1:=e1.fzI hp
 walk_at "rd"
 refine Ga (hI.hf_fz fz1) fun nv1 hN1=>?_
 walk_at "rd"
 refine⟨nv1,ns,rfl,hN1,hn,h10,fun bd H2 hb2 e2 h2=>?_⟩
 walk_at "rd"
 refine ag1 (e2 _ _ h1) (by show 1<1000;decide) fun H3 e3 h3=>?_
 rw[fld2] at h3
 have fz3:=e3.fzI (e2 _ _ h1)
 have hbp:bd≠p:=(ne_of_none h1 hb2).symm
 have h3b:H3 bd=some (.dK (a54 ns)):=e3 _ _ hbp h2
 walk_at "rd"
 refine Lz h3 (by rfl) ?_
 walk_at "rd"
 refine⟨v,bd,ns,ps,rfl,hI.hf_fz ((fz1.trans e2.fz).trans fz3),hW,h10,h3b,fun ad H4 ha4 e4 h4=>?_⟩
 walk_at "rd"
 refine ag1 (e4 _ _ h3) (by show 2<1000;decide) fun H5 e5 h5=>?_
 rw[fld3] at h5
 have fz5:=e5.fzI (e4 _ _ h3)
 have hap:ad≠p:=(ne_of_none h3 ha4).symm
 have h5a:H5 ad=some (.dK (ahK ns ps)):=e5 _ _ hap h4
 have h5b:H5 bd=some (.dK (a54 ns)):=e5 _ _ hbp (e4 _ _ h3b)
 walk_at "rd"
 refine Lz h5 (by rfl) ?_
 walk_at "rd"
 refine a41 h5b ?_
 walk_at "rd"
 refine ab0 h5b fun v6 H6 hv6 e6 h6=>?_
 walk_at "rd"
 have hbs:∀ n∈ns.map (fun x=>((De ns x:Nat):Int)),0<=n/\n<=1000000000000:=fun n hn'=>by
  obtain⟨y,hy,rfl⟩:=List.mem_map.mp hn'
  have:=Y5 hn h10 hy
  omega
 refine ac6 h6 (e6 _ _ h5b) (ns:=ns.map fun x=>((De ns x:Nat):Int)) (by unfold a54;rw[List.map_map,List.map_map];rfl) hbs (by rw[List.length_map];omega) ?_
 have hsum:(ns.map (De ns)).sum=Ao ns (fun _=>true):=by
  have:=Ic (fun _=>true) hn
  rwa[show ns.filter (fun _=>true)=ns by simp] at this
 rw[Im,hsum]
 walk_at "rd"
 have h6p:=e6 _ _ h5
 refine ag1 h6p (by show 3<1000;decide) fun H7 e7 h7=>?_
 rw[fld4] at h7
 have fz7:=e7.fzI h6p
 walk_at "rd"
 refine Tv fun kd H8 hk8 e8 h8=>?_
 walk_at "rd"
 refine Pa [(Sum.inl 0,V.int 1)] h8 rfl (by decide) fun H9 e9 h9=>?_
 walk_at "rd"
 have hkp:p≠kd:=ne_of_none h7 hk8
 have h9p:=e9 _ _ hkp (e8 _ _ h7)
 refine ag1 h9p (by show 4<1000;decide) fun H10 e10 h10'=>?_
 rw[fld5] at h10'
 have fz10:=e10.fzI h9p
 walk_at "rd"
 have hpb:bd≠p:=hbp
 have h7b:=e7 _ _ hbp (e6 _ _ h5b)
 have h7a:=e7 _ _ hap (e6 _ _ h5a)
 have hbk:bd≠kd:=ne_of_none h7b hk8
 have hak:ad≠kd:=ne_of_none h7a hk8
 have hE:ExtBut p H H7:=((((e1.same e2).trans e3).same e4).trans e5 |>.same e6).trans e7
 have hkH:H kd=none:=by
  cases c:H kd with
  | none=>rfl
  | some o=>rw[hE _ _ hkp.symm c] at hk8;cases hk8
 rw[Sb ns ps] at h9
 refine k nv bd ad kd H10 hkH ?_ ⟨h10',?_,?_,?_,?_,hbk,hak,Sb ns ps ▸ Knw.new ns ps⟩
 . exact((hE.same e8).off hkH e9).trans e10
 . exact hN.nm_fz (((((((fz1.trans e2.fz).trans fz3).trans e4.fz).trans fz5).trans e6.fz).trans fz7).trans ((e8.fz.trans (e9.fzD h8)).trans fz10))
 . exact e10 _ _ hbp (e9 _ _ hbk (e8 _ _ h7b))
 . exact e10 _ _ hap (e9 _ _ hak (e8 _ _ h7a))
 exact e10 _ _ hkp.symm h9
theorem Gz {f:Addr}{fd:FuncData}(F:Fun K "free_names" "Ways.free_names" B1 f fd)(T:Hc mg){C_Ways:Addr}(k_Ways:Ew K C_Ways):FnOk P w K mg base CX0 1 f fd ["self","left"] (At C_Ways K):=by
 refine F.ok Ha (fun vs H Q E h=>?_) (fun cdv A outer s H vs Q E hr h=>?_)
 . obtain⟨p,dx,nv,bd,ad,kd,ns,ps,q,rfl,_⟩:=h
   rfl
 obtain⟨p,dx,nv,bd,ad,kd,ns,ps,q,rfl,hA,hW,h10,k⟩:=h
 have hu:=Cm hr
 have hq:=Cu hr
 have hn:=hW.nd
 with_reducible refine⟨_,(A7 (B6 (Br ["name"] ["self","left"] [0,1] (by ac_nf) (by ac_nf) (by ac_nf) (Ak (K:=K) hu (Fo (C:=C_Ways) (pv 0) k_Ways.cl k_Ways.n_names (by ac_nf))) (fun _ _ _ _=>(A8 (i:=0) (by with_unfolding_all (show(["name","self","left"]:List Str).Nodup;decide +kernel)) (by ac_nf) (by eq_refl))) (B7 (by decide)) (fun _ _ _ _=>(Di (PW.pt (Tm (Sa (Ag Tl (Ah (A6 (K:=K) hu) (Fo (C:=C_Ways) (pv 1) k_Ways.cl k_Ways.n_bits (by ac_nf)) (pv 0) (by ac_rfl)) (pv 2))) (Pb (Y9 (Sa (Ag Tl (Ah (A6 (K:=K) hu) (Fo (C:=C_Ways) (pv 1) k_Ways.cl k_Ways.n_ahead (by ac_nf)) (pv 0) (by ac_rfl)) (pv 2))))))))) (fun _ _ _ _=>(pv 0))))),?_⟩
 walk_at "rd"
 refine Lz hA.ob (by rfl) ?_
 refine L9 hA.nm (fun x=>q x && !(ns.any fun y=>Ae ps y x&&q y)) PyData.str (fun _=>rfl) (by omega) (fun j x H1 R R' hx e1 hR hR'=>?_) (fun l ys H1 hl1 e1 h1 hL1=>?_)
 . have hA1:=hA.same e1
   have hxn:=List.mem_of_getElem? hx
   walk_at "rd"
   refine Lz hA1.ob (by rfl) ?_
   walk_at "rd"
   refine i_ixD hA1.bt (Eb hxn) ?_
   walk_at "rd"
   rw[Ss hn hxn]
   refine af0 (fun hb=>?_) (fun hb=>?_)
   . walk_at "rd"
     refine Lz hA1.ob (by rfl) ?_
     walk_at "rd"
     refine i_ixD hA1.ah (Eb hxn) ?_
     walk_at "rd"
     rw[W8]
     walk_at "rd"
     refine Rt (fun hc=>?_) (fun hc=>?_)
     . walk_at "rd"
       exact hR (by rw[hb,hc];rfl) _ _ (.refl _) Jm
     exact hR' (by rw[hb,hc];rfl) _ (.refl _)
   exact hR' (by rw[hb];rfl) _ (.refl _)
 rw[Sm] at hL1
 have:=IsL.str_eq hL1
 subst this
 walk_at "rd"
 exact k l H1 hl1 e1 h1
theorem Ia {f:Addr}{fd:FuncData}(F:Fun K "ways_on" "Ways.ways_on" Bd f fd)(T:Hc mg){C_Ways:Addr}(k_Ways:Ew K C_Ways)(c_Ways_free_names:Mtd P w K mg base 1 C_Ways "free_names" ["self","left"] (At C_Ways K))(n:Nat)(c_Ways_ways_on:Mtd P w K mg base (2+n) C_Ways "ways_on" ["self","left"] (Bo C_Ways K n)):FnOk P w K mg base CX0 (2+n+1) f fd ["self","left"] (Bo C_Ways K (n+1)):=by
 refine F.ok J3 (fun vs H Q E h=>?_) (fun cdv A outer s H vs Q E hr h=>?_)
 . obtain⟨p,dx,nv,bd,ad,kd,ns,ps,qs,q,rfl,_⟩:=h
   rfl
 obtain⟨p,dx,nv,bd,ad,kd,ns,ps,qs,q,rfl,hA,hW,h10,hlt,k⟩:=h
 have hu:=Cm hr
 have hq:=Cu hr
 have hn:=hW.nd
 have hkl:=hA.ok.len h10
 have hLn:(ns.filter q).Nodup:=List.Nodup.sublist List.filter_sublist hn
 have hLl:(ns.filter q).length<=ns.length:=List.length_filter_le _ _
 with_reducible refine⟨_,(A3 (G8 (Ar (Fx (K:=K) hq) (pv 1) (Fo (C:=C_Ways) (pv 0) k_Ways.cl k_Ways.n_known (by ac_nf)) (by ac_nf)) (A7 (Eg hu (Fo (C:=C_Ways) (pv 0) k_Ways.cl k_Ways.n_known (by ac_nf)) (pv 1) (An (Ng (K:=K) (by ac_nf)) (by ac_nf) T.b_sum PyProof.Rows.Boot.«sum» (A1 (Br ["name"] ["self","left"] [0,1] (by ac_nf) (by ac_nf) (by ac_nf) (Ak (K:=K) hu (Tj (C:=C_Ways) (pv 0) k_Ways.cl c_Ways_free_names (hr.mono (by omega)) (A1 (pv 1) A2))) (fun _ _ _ _=>(A8 (i:=0) (by with_unfolding_all (show(["name","self","left"]:List Str).Nodup;decide +kernel)) (by ac_nf) (by eq_refl))) (B7 (by decide)) (fun _ _ _ _=>Dl) (fun _ _ _ _=>(Tj (C:=C_Ways) (pv 1) k_Ways.cl c_Ways_ways_on (hr.mono (by omega)) (A1 (Ag Gp (pv 2) (Ah (A6 (K:=K) hu) (Fo (C:=C_Ways) (pv 1) k_Ways.cl k_Ways.n_bits (by ac_nf)) (pv 0) (by ac_rfl))) A2)))) A2)) (by ac_nf))) By)
  (A7 (B6 (Ah (A6 (K:=K) hu) (Fo (C:=C_Ways) (pv 0) k_Ways.cl k_Ways.n_known (by ac_nf)) (pv 1) (by ac_rfl))))),?_⟩
 walk_at "rd"
 refine Lz hA.ob (by rfl) ?_
 refine Zo hA.kn ?_
 walk_at "rd"
 cases hv:Cg (knK ns ps qs) (Sum.inl ((Ao ns q:Nat):Int):Key) with
 | some v=>
   have:=hA.ok.get hv
   subst this
   refine iteF ?_
   walk_at "rd"
   refine Lz hA.ob (by rfl) ?_
   walk_at "rd"
   refine Pl hA.kn hv ?_
   exact k qs H .refl hA ⟨[],by simp,trivial,fun M hM=>(by cases hM),Yw hv⟩
 | none=>
   have hne:ns.filter q≠[]:=fun e=>by
    have h0:Ao ns q=0:=binM_zero.mpr fun x hx=>by
     cases c:q x with
     | false=>rfl
     | true=>
       have:x∈ns.filter q:=List.mem_filter.mpr ⟨hx,c⟩
       rw[e] at this
       cases this
    rw[h0] at hv
    rw[show((0:Nat):Int)=0 from rfl,hA.ok.2.2] at hv
    cases hv
   refine iteT ?_
   walk_at "rd"
   refine af2 hA.ob (by rfl) ?_
   walk_at "rd"
   refine⟨p,dx,nv,bd,ad,kd,ns,ps,q,rfl,hA.b,hW,h10,fun l H1 hl1 e1 h1=>?_⟩
   have hA1:=hA.same e1
   refine G9 (SqL.of h1) ?_
   refine Gg (Av (xs:=(frF (Ae ps) (ns.filter q)).map V.str)) (fun pl i acc H2=>∃ qs2,ExtBut kd H1 H2/\WaysAt K C_Ways H2 p dx nv bd ad kd ns ps (knK ns ps qs2)/\GrC ns ps qs qs2 (ns.filter q) i/\acc=((frF (Ae ps) (ns.filter q)).take i).map fun x=>V.int ((cnt (Ae ps) (Aa (ns.filter q) x):Nat):Int))
    (fun pl H' hp' e' h'=>⟨qs,e'.but,hA1.same e',.zero ..,rfl⟩) (fun pl i acc H2 hP=>?_) (fun pl i x acc H2 hpl hx hi hl hpa hP=>?_) (fun pl acc H2 hpl hpa hal hP=>?_)
   . obtain⟨qs2,e2,_⟩:=hP
     exact SqL.of (e2 _ _ (ne_of h1 hA1.kn (by intro z;cases z)) h1)
   . obtain ⟨qs2,e2,hA2,hG2,rfl⟩:=hP
     rw[List.getElem?_map] at hx
     cases hz:(frF (Ae ps) (ns.filter q))[i]? with
     | none=>rw[hz] at hx;cases hx
     | some z=>
       rw[hz] at hx
       cases hx
       have hzf:=List.mem_of_getElem? hz
       have hzL:=(mem_frF.mp hzf).1
       have hzn:=(List.mem_filter.mp hzL).1
       have hqz:=(List.mem_filter.mp hzL).2
       have hsub:=Lf hn hzn hqz
       have hlen:=B9 hLn hzL
       walk_at "rd"
       refine af2 hA2.ob (by rfl) ?_
       walk_at "rd"
       refine Lz hA2.ob (by rfl) ?_
       walk_at "rd"
       refine i_ixD hA2.bt (Eb hzn) ?_
       walk_at "rd"
       have hval:((Ao ns q:Nat):Int)-((De ns z:Nat):Int)=((Ao ns (fun y=>q y && !decide (y=z)):Nat):Int):=by omega
       rw[hval]
       refine⟨p,dx,nv,bd,ad,kd,ns,ps,qs2,_,rfl,hA2,hW,h10,by rw[C2];omega,fun qs3 H3 e3 hA3 hG3=>?_⟩
       rw[C2]
       have hplk:pl≠kd:=ne_of hpa hA2.kn (by intro z;cases z)
       have h3p:=e3 _ _ hplk hpa
       refine Je (by rw[List.length_map];exact Nat.le_trans (List.length_filter_le _ _) (by omega)) hi hl h3p fun H4 e4 h4=>?_
       refine⟨qs3,?_,hA3.list e4 h3p,hG2.step hLn hz (C2 ..) hG3,?_⟩
       . exact(e2.trans e3).off hpl e4
       rw[List.take_add_one,hz]
       simp
   obtain⟨qs2,e2,hA2,hG2,rfl⟩:=hP
   rw[List.length_map,List.take_length] at hpa
   have hmm:(frF (Ae ps) (ns.filter q)).map (fun x=>V.int ((cnt (Ae ps) (Aa (ns.filter q) x):Nat):Int))=((frF (Ae ps) (ns.filter q)).map fun x=>((cnt (Ae ps) (Aa (ns.filter q) x):Nat):Int)).map V.int:=by rw[List.map_map];rfl
   rw[hmm] at hpa
   walk_at "rd"
   refine ah1 (.inl (SqL.of hpa)) (fun n' hn'=>?_) (by rw[List.length_map];exact Nat.le_trans (List.length_filter_le _ _) (by omega)) ?_
   . obtain⟨y,hy,rfl⟩:=List.mem_map.mp hn'
     have:=B9 hLn (mem_frF.mp hy).1
     have:=Ky (b:=Ae ps) (Be hLn y) (by omega)
     omega
   rw[Im,<- Iv hLn hne]
   walk_at "rd"
   refine Lz hA2.ob (by rfl) ?_
   walk_at "rd"
   have hkl2:=hA2.ok.len h10
   refine T9 hA2.kn (by omega) fun H3 e3 h3=>?_
   have hno:=hG2.no (fun z=>by rw[Qg z] at hv;cases hv)
   have hA3:=hA2.put e3 h3 (hA2.ok.put q)
   rw[aa2 hno] at hA3
   walk_at "rd"
   refine Lz hA3.ob (by rfl) ?_
   walk_at "rd"
   refine Pl hA3.kn (Qg (by rw[Bt];simp[B5])) ?_
   rw[List.length_map] at hG2
   exact k _ H3 (((e1.but (d:=kd)).trans e2).trans e3) hA3 hG2.close
theorem Ja {f:Addr}{fd:FuncData}(F:Fun K "ways_on" "Ways.ways_on" Bd f fd)(T:Hc mg){C_Ways:Addr}(k_Ways:Ew K C_Ways)(c_Ways_free_names:Mtd P w K mg base 1 C_Ways "free_names" ["self","left"] (At C_Ways K))(hm:ah9 K C_Ways "ways_on" f)(hb:Binds K fd ["self","left"] []):FnOk P w K mg base CX0 13 f fd ["self","left"] (Dx C_Ways K):=by
 have h:∀ n:Nat,FnOk P w K mg base CX0 (2+n) f fd ["self","left"] (Bo C_Ways K n):=fun n=>by
  induction n with
  | zero=>exact FnOk.void Fp
  | succ n ih=>exact Ia F T k_Ways c_Ways_free_names n ⟨f,fd,ih,hm,hb⟩
 exact h 11
def Fd (C:Addr)(K:PySem.W.Frag):Sp:=fun vs H Q _=>∃ p dx nv bd ad kd ns ps qs,vs=[.ref p]/\WaysAt K C H p dx nv bd ad kd ns ps (knK ns ps qs)/\Ko ns ps/\ns.length<=10/\Gr ns ps [fun _=>false] qs (fun _=>true) /\
 ∀ d ct H',H d=none->Same H H'->H' d=some (.dK (Fg ns ct))->Li ns ct->CmI ns ps (B5 ns qs) (B5 ns qs) ct->Q (.ref d) H'
theorem Lv {f:Addr}{fd:FuncData}(F:Fun K "comings_of" "comings_of" C7 f fd)(T:Hc mg){C_Ways:Addr}(k_Ways:Ew K C_Ways)(c_Ways_free_names:Mtd P w K mg base 1 C_Ways "free_names" ["self","left"] (At C_Ways K)):FnOk P w K mg base CX0 2 f fd ["ways"] (Fd C_Ways K):=by
 refine F.ok Ci (fun vs H Q E h=>?_) (fun cdv A outer s H vs Q E hr h=>?_)
 . obtain⟨p,dx,nv,bd,ad,kd,ns,ps,qs,rfl,_⟩:=h
   rfl
 obtain⟨p,dx,nv,bd,ad,kd,ns,ps,qs,rfl,hA,hW,h10,hG,k⟩:=h
 have hu:=Cm hr
 have hq:=Cu hr
 have hn:=hW.nd
 have hnd:=hA.ok.tt
 have hkl:=hA.ok.len h10
 have hT0:ns∈B5 ns qs:=by
  obtain⟨new,_,_,_,h⟩:=hG
  rwa[show ns.filter (fun _=>true)=ns by simp] at h
 with_reducible refine⟨_,(A3 (Ab (i:=1) Ci.nd (by ac_nf) (by eq_refl) (Ov (G3 (Fo (C:=C_Ways) (pv 0) k_Ways.cl k_Ways.n_full (by ac_nf)) A5 Oq) (by ac_nf) (by ac_nf) (by decide) (by decide)))
  (A3 (Bs PassesOwn.never (by ac_nf) (a29 (K:=K) (by ac_nf) T.b_reversed (A1 (Au (K9 (by ac_nf)) (by ac_nf) T.b_list PyProof.Rows.Boot.«list» (A1 (Fo (C:=C_Ways) (pv 0) k_Ways.cl k_Ways.n_known (by ac_nf)) A2)) A2)) (A8 (i:=2) Ci.nd (by ac_nf) (by eq_refl))
  (A7 (Bs PassesOwn.never (by ac_nf) (Ak (K:=K) hu (Tj (C:=C_Ways) (pv 0) k_Ways.cl c_Ways_free_names (hr.mono (by decide)) (A1 (pv 2) A2))) (A8 (i:=3) Ci.nd (by ac_nf) (by eq_refl))
  (A3 (Ab (i:=4) Ci.nd (by ac_nf) (by eq_refl) (Ag Gp (pv 2) (Ah (A6 (K:=K) hu) (Fo (C:=C_Ways) (pv 0) k_Ways.cl k_Ways.n_bits (by ac_nf)) (pv 3) (by ac_rfl))))
  (A7 (Eg hu (pv 1) (pv 4) (Ag (Ad (K:=K)) (Xl hu (pv 1) (pv 4) A5 (by with_unfolding_all exact⟨rfl,rfl,rfl,rfl⟩)) (Ah (A6 (K:=K) hu) (pv 1) (pv 2) (by ac_rfl))) (by ac_nf)))))))
  (A7 (B6 (pv 1))))),?_⟩
 walk_at "rd"
 refine Tv fun d H1 hd1 e1 h1=>?_
 have hA1:=hA.same e1
 walk_at "rd"
 refine Lz hA1.ob (by rfl) ?_
 walk_at "rd"
 refine Pa [(Sum.inl ((Ao ns (fun _=>true):Nat):Int),V.int 1)] h1 rfl (by show 1<=15;decide) fun H2 e2 h2=>?_
 have e02:Same H H2:=e1.off hd1 e2
 have hA2:=hA.same e02
 walk_at "rd"
 refine a44 ?_
 walk_at "rd"
 refine Lz hA2.ob (by rfl) ?_
 walk_at "rd"
 refine So hA2.kn (by omega) fun l H3 hl3 e3 h3=>?_
 have hl:((knK ns ps qs).map fun kv=>kV kv.1)=qs.map fun q=>V.int ((Ao ns q:Nat):Int):=by
  unfold knK
  rw[List.map_map]
  rfl
 rw[hl] at h3
 walk_at "rd"
 refine ah3 (SqL.of h3) ?_
 have hdb:bd≠d:=ne_of_none hA.bt hd1
 have hda:ad≠d:=ne_of_none hA.ah hd1
 have hdp:p≠d:=ne_of_none hA.ob hd1
 have hld:l≠d:=(ne_of_none h2 hl3).symm
 refine Ck Sl (fun i σ H4=>∃ x2 x3 x4 ct,σ=[some (.ref p),some (.ref d),x2,x3,x4]/\Same H H4/\H4 l=some (.lst (qs.map fun q=>V.int ((Ao ns q:Nat):Int)))/\WaysB K C_Ways H4 p dx nv bd ad kd ns ps/\H4 d=some (.dK (Fg ns ct))/\Li ns ct/\CmI ns ps (B5 ns qs) ((B5 ns qs).reverse.take i).reverse ct)
  ⟨_,_,_,[(fun _=>true,1)],rfl,e02.trans e3,h3,(hA2.same e3).b,e3 _ _ h2,by unfold Li Fg;simp,by rw[List.take_zero,List.reverse_nil];exact .start hT0⟩ (fun i σ' H' hP=>?_) (fun i x σ' H4 hx hi hP=>?_) (fun σ' H4 hP=>?_)
 . obtain⟨_,_,_,_,_,_,h,_⟩:=hP
   exact SqL.of h
 . obtain ⟨x2,x3,x4,ct1,rfl,e4,h4l,hB4,h4d,hO1,hI1⟩:=hP
   rw[<- List.map_reverse,List.getElem?_map] at hx
   cases he:qs.reverse[i]? with
   | none=>rw[he] at hx;cases hx
   | some e=>
     rw[he] at hx
     cases hx
     have hM:(B5 ns qs).reverse[i]? = some (ns.filter e):=by
      unfold B5
      rw[<- List.map_reverse,List.getElem?_map,he]
      rfl
     obtain⟨A0,hsp⟩:=Wl hM
     have hat:=aa3 hG hsp
     have hLn:(ns.filter e).Nodup:=List.Nodup.sublist List.filter_sublist hn
     walk_at "rd"
     refine af2 hB4.ob (by rfl) ?_
     walk_at "rd"
     refine⟨p,dx,nv,bd,ad,kd,ns,ps,e,rfl,hB4,hW,h10,fun l5 H5 hl5 e5 h5=>?_⟩
     refine G9 (SqL.of h5) ?_
     have hl5d:l5≠d:=(ne_of_none h4d hl5).symm
     refine Ck (Av (xs:=(frF (Ae ps) (ns.filter e)).map V.str)) (fun m σ H6=>∃ y3 y4 ct2,σ=[some (.ref p),some (.ref d),some (.int ((Ao ns e:Nat):Int)),y3,y4]/\Same H H6/\H6 l=some (.lst (qs.map fun q=>V.int ((Ao ns q:Nat):Int)))/\H6 l5=some (.lst ((frF (Ae ps) (ns.filter e)).map V.str))/\WaysB K C_Ways H6 p dx nv bd ad kd ns ps/\H6 d=some (.dK (Fg ns ct2))/\Li ns ct2/\CmJ ns ps (ns.filter e) m ct1 ct2)
      ⟨_,_,ct1,rfl,e4.trans e5,e5 _ _ h4l,h5,hB4.same e5,e5 _ _ h4d,hO1,.zero ..⟩ (fun m σ' H' hP=>?_) (fun m x6 σ' H6 hx6 hm hP=>?_) (fun σ' H6 hP=>?_)
     . obtain⟨_,_,_,_,_,_,h,_⟩:=hP
       exact SqL.of h
     . obtain ⟨y3,y4,ct2,rfl,e6,h6l,h6f,hB6,h6d,hO2,hJ2⟩:=hP
       rw[List.getElem?_map] at hx6
       cases hz:(frF (Ae ps) (ns.filter e))[m]? with
       | none=>rw[hz] at hx6;cases hx6
       | some z=>
         rw[hz] at hx6
         cases hx6
         have hzf:=List.mem_of_getElem? hz
         have hzL:=(mem_frF.mp hzf).1
         have hzn:=(List.mem_filter.mp hzL).1
         have hsub:=Lf hn hzn (List.mem_filter.mp hzL).2
         have hval:((Ao ns e:Nat):Int)-((De ns z:Nat):Int)=((Ao ns (fun y=>e y && !decide (y=z)):Nat):Int):=by omega
         have hMk:ns.filter e∈Eo ns ct1:=by
          rcases hat with q | ⟨_,q | ⟨N,hN,x,hx,q⟩⟩
          . rw[q] at hzf;cases hzf
          . rw[q];exact hI1.k2
          rw[q];exact hI1.k3 N hN x hx
         have hMk2:ns.filter e∈Eo ns ct2:=(hJ2.ks _).mpr (.inl hMk)
         obtain⟨k0,ct3,g1,g2,g3,g4,g5⟩:=Vx ns (fun y=>e y && !decide (y=z)) (Er ns (ind (ns.filter e)) ct2) hO2
         have hl2:=a47 hO2 h10
         walk_at "rd"
         refine Lz hB6.ob (by rfl) ?_
         walk_at "rd"
         refine i_ixD hB6.bt (Eb hzn) ?_
         walk_at "rd"
         rw[hval]
         refine Xo h6d ?_
         walk_at "rd"
         refine⟨_,DGet.k (k:=Sum.inl _) h6d,?_⟩
         rw[g1]
         walk_at "rd"
         refine Pl h6d (Nv hO2 hMk2) ?_
         walk_at "rd"
         refine T9 h6d (by unfold Fg;rw[List.length_map];omega) fun H7 e7 h7=>?_
         walk_at "rd"
         refine⟨_,_,ct3,rfl,e6.off hd1 e7,e7 _ _ hld h6l,e7 _ _ hl5d h6f,hB6.of (e7.fzD h6d) (fun b o hb q=>e7 _ _ (by rcases hb with rfl | rfl | rfl;exact hdp;exact hdb;exact hda) q),?_,g4,hJ2.step hz (C2 ..) g3 g5⟩
         rw[h7,g2]
         rfl
     obtain⟨y3,y4,ct2,rfl,e6,h6l,h6f,hB6,h6d,hO2,hJ2⟩:=hP
     rw[List.length_map] at hJ2
     refine⟨_,_,_,ct2,rfl,e6,h6l,hB6,h6d,hO2,?_⟩
     rw[Xg hM]
     refine hI1.step hsp hnd hLn ?_ hJ2
     rcases hat with q | ⟨q,_⟩
     . rw[q]
       intro x hx
       cases hx
     exact q
 obtain⟨x2,x3,x4,ct1,rfl,e4,h4l,hB4,h4d,hO1,hI1⟩:=hP
 rw[List.length_reverse,List.length_map,show qs.length=(B5 ns qs).reverse.length by unfold B5;rw[List.length_reverse,List.length_map],List.take_length,List.reverse_reverse] at hI1
 walk_at "rd"
 exact k d ct1 H4 hd1 e4 h4d hO1 hI1
structure Shr (K:PySem.W.Frag)(C:Addr)(H0 H:Hp)(o:Obj)(p dx:Addr)(nv:V)(bd ad kd cd fd:Addr)(ns:List Str)(ps:List (Str×Str))(qs:List (Str->Bool))(ct:List ((Str->Bool)×Nat))(as:List Addr)(f:Str->Str->Nat):Prop where
 sm:Same H0 H
 kn:H kd=some (.frz o (.dK (knK ns ps qs)))
 wb:WaysB K C H p dx nv bd ad kd ns ps
 cm:H cd=some (.dK (Fg ns ct))
 tb:TabN H fd ns as f
 fr:∀ a∈as,H0 a=none
 ne:∀ a∈as,a≠kd/\a≠p/\a≠bd/\a≠ad/\a≠cd
theorem Shr.same {K:PySem.W.Frag}{C:Addr}{H0 H H':Hp}{o:Obj}{p dx:Addr}{nv:V}{bd ad kd cd fd:Addr}{ns:List Str}{ps:List (Str×Str)}{qs:List (Str->Bool)}{ct:List ((Str->Bool)×Nat)}{as:List Addr}{f:Str->Str->Nat}(h:Shr K C H0 H o p dx nv bd ad kd cd fd ns ps qs ct as f)(e:Same H H'):Shr K C H0 H' o p dx nv bd ad kd cd fd ns ps qs ct as f:=
 ⟨h.sm.trans e,e _ _ h.kn,h.wb.same e,e _ _ h.cm,h.tb.same e,h.fr,h.ne⟩
theorem Shr.put {K:PySem.W.Frag}{C:Addr}{H0 H H':Hp}{o:Obj}{p dx:Addr}{nv:V}{bd ad kd cd fd:Addr}{ns:List Str}{ps:List (Str×Str)}{qs:List (Str->Bool)}{ct:List ((Str->Bool)×Nat)}{as:List Addr}{f:Str->Str->Nat}(h:Shr K C H0 H o p dx nv bd ad kd cd fd ns ps qs ct as f)(hn:ns.Nodup){j:Nat}{x z:Str}{m:Nat}{a:Addr}(hj:ns[j]? = some x)(ha:as[j]? = some a)(hz:z∈ns)(e:ExtBut a H H')(h':H' a=some (.dK (Dv (Nu ns (f x)) (Sum.inr z:Key) (.int ((m:Nat):Int))))) :
  Shr K C H0 H' o p dx nv bd ad kd cd fd ns ps qs ct as fun x' y=>if x'=x/\y=z then m else f x' y:=by
 have ham:=List.mem_of_getElem? ha
 obtain⟨n1,n2,n3,n4,n5⟩:=h.ne a ham
 exact⟨h.sm.off (h.fr a ham) e,e _ _ n1.symm h.kn,h.wb.of (e.fzD (h.tb.row j x a hj ha)) (fun b o' hb q=>e _ _ (by rcases hb with rfl | rfl | rfl;exact n2.symm;exact n3.symm;exact n4.symm) q),e _ _ n5.symm h.cm,h.tb.put hn hj ha hz e h',h.fr,h.ne⟩
def Fk (K:PySem.W.Frag):Sp:=fun vs H Q _=>∃ v ns ps,vs=[v]/\Is K H (hfD ns ps) v/\HalfW ns ps/\ns.length<=10/\∀ fd as f H',Same H H'->TabN H' fd ns as f->(∀ x∈ns,∀ y∈ns,x≠y->f x y=cnt (Ae (ps++[(x,y)])) ns)->Q (.ref fd) H'
theorem Nk {f:Addr}{fd:FuncData}(F:Fun K "shares_of" "shares_of" Cq f fd)(T:Hc mg){C_Ways:Addr}(k_Ways:Ew K C_Ways)(c_comings_of:Fnd P w K mg base 2 "comings_of" ["ways"] (Fd C_Ways K))(c_Ways_init:Mkd P w K mg base 3 C_Ways "Ways" ["self","half"] (Fl C_Ways K))(c_Ways_free_names:Mtd P w K mg base 1 C_Ways "free_names" ["self","left"] (At C_Ways K))(c_Ways_ways_on:Mtd P w K mg base 13 C_Ways "ways_on" ["self","left"] (Dx C_Ways K)):FnOk P w K mg base CX0 14 f fd ["half"] (Fk K):=by
 refine F.ok Ba (fun vs H Q E h=>?_) (fun cdv A outer s H vs Q E hr h=>?_)
 . obtain⟨v,ns,ps,rfl,_⟩:=h
   rfl
 obtain⟨v,ns,ps,rfl,hI,hW,h10,k⟩:=h
 have hu:=Cm hr
 have hq:=Cu hr
 have hn:=hW.nd
 with_reducible refine⟨_,(A3 (Ab (i:=1) Ba.nd (by ac_nf) (by eq_refl) (ak4 c_Ways_init (hr.mono (by decide)) (by ac_nf) (A1 (pv 0) A2)))
  (A3 (Ei (Tj (C:=C_Ways) (pv 1) k_Ways.cl c_Ways_ways_on (hr.mono (by decide)) (A1 (Fo (C:=C_Ways) (pv 1) k_Ways.cl k_Ways.n_full (by ac_nf)) A2)))
  (A3 (Ab (i:=2) Ba.nd (by ac_nf) (by eq_refl) (As c_comings_of (hr.mono (by decide)) (by ac_nf) (A1 (pv 1) A2)))
  (A3 (Ab (i:=3) Ba.nd (by ac_nf) (by eq_refl) (Au (Hj (K:=K) hr.hd) (by ac_nf) T.b_dict PyProof.Rows.Boot.«dict» (A1 (Br ["one"] ["half"] [0] (by ac_nf) (by ac_nf) (by ac_nf) (Ak (K:=K) hu (Ah (A6 (K:=K) hu) (pv 0) A5 (by ac_rfl))) (fun _ _ _ _=>(A8 (i:=0) (by with_unfolding_all (show(["one","half"]:List Str).Nodup;decide +kernel)) (by ac_nf) (by eq_refl))) (B7 (by decide)) (fun _ _ _ _=>Dl) (fun _ _ _ _=>(Bm (A1 (pv 0) (A1 (Au (Hj (K:=K) hr.hd) (by ac_nf) T.b_dict PyProof.Rows.Boot.«dict» (A1 (Br ["other"] [] [] (by ac_nf) (by ac_nf) (by ac_nf) (Ak (K:=K) hu (Ah (A6 (K:=K) hu) (pv 1) A5 (by ac_rfl))) (fun _ _ _ _=>(A8 (i:=0) (by with_unfolding_all (show(["other"]:List Str).Nodup;decide +kernel)) (by ac_nf) (by eq_refl))) (B7 (by decide)) (fun _ _ _ _=>Dl) (fun _ _ _ _=>(Bm (A1 (pv 0) (A1 A5 A2))))) A2)) A2))))) A2)))
  (A3 (Bs PassesOwn.never (by ac_nf) (Ak (K:=K) hu (Fo (C:=C_Ways) (pv 1) k_Ways.cl k_Ways.n_known (by ac_nf))) (A8 (i:=4) Ba.nd (by ac_nf) (by eq_refl))
  (A7 (Bs PassesOwn.never (by ac_nf) (Ak (K:=K) hu (Tj (C:=C_Ways) (pv 1) k_Ways.cl c_Ways_free_names (hr.mono (by decide)) (A1 (pv 4) A2))) (A8 (i:=5) Ba.nd (by ac_nf) (by eq_refl))
  (A3 (Ab (i:=6) Ba.nd (by ac_nf) (by eq_refl) (Ag Gp (pv 4) (Ah (A6 (K:=K) hu) (Fo (C:=C_Ways) (pv 1) k_Ways.cl k_Ways.n_bits (by ac_nf)) (pv 5) (by ac_rfl))))
  (A3 (Ab (i:=7) Ba.nd (by ac_nf) (by eq_refl) (Ag Ct (Ah (A6 (K:=K) hu) (pv 2) (pv 4) (by ac_rfl)) (Ah (A6 (K:=K) hu) (Fo (C:=C_Ways) (pv 1) k_Ways.cl k_Ways.n_known (by ac_nf)) (pv 6) (by ac_rfl))))
  (A7 (Bs PassesOwn.never (by ac_nf) (Ak (K:=K) hu (Ah (A6 (K:=K) hu) (pv 0) A5 (by ac_rfl))) (A8 (i:=8) Ba.nd (by ac_nf) (by eq_refl))
  (A7 (G8 (Sa (Ag Tl (Ah (A6 (K:=K) hu) (Fo (C:=C_Ways) (pv 1) k_Ways.cl k_Ways.n_bits (by ac_nf)) (pv 8) (by ac_rfl)) (pv 6))) (A7 (Eg hu (Ah (A6 (K:=K) hu) (pv 3) (pv 5) (by ac_rfl)) (pv 8) (Ag (Ad (K:=K)) (Ah (A6 (K:=K) hu) (Ah (A6 (K:=K) hu) (pv 3) (pv 5) (by ac_rfl)) (pv 8) (by ac_rfl)) (pv 7)) (by ac_nf))) By)))))))))
  (A7 (B6 (pv 3)))))))),?_⟩
 walk_at "rd"
 refine i_mk fun p dx H1 hp1 e1 h1=>?_
 refine⟨p,v,dx,ns,ps,rfl,h1,hI.hf_fz e1.fz,hW,h10,fun nv bd ad kd H2 hk2 e2 hA=>⟨rfl,?_⟩⟩
 walk_at "rd"
 refine af2 hA.ob (by rfl) ?_
 walk_at "rd"
 refine Lz hA.ob (by rfl) ?_
 walk_at "rd"
 have hfl:ns.filter (fun _=>true)=ns:=by simp
 refine⟨p,dx,nv,bd,ad,kd,ns,ps,_,fun _=>true,rfl,hA,hW,h10,by rw[hfl];omega,fun qs H3 e3 hA3 hG=>?_⟩
 walk_at "rd"
 refine⟨p,dx,nv,bd,ad,kd,ns,ps,qs,rfl,hA3,hW,h10,hG,fun cd ct H4 hcd e4 h4 hO hC=>?_⟩
 have hkH:H kd=none:=e1.free hk2
 have e03:Same H H3:=(e1.off hp1 e2).off hkH e3
 have e04:=e03.trans e4
 have hA4:=hA3.same e4
 have hnd:=hA4.ok.tt
 have hkl:=hA4.ok.len h10
 have hc3:H cd=none:=e03.free hcd
 have hckd:cd≠kd:=(ne_of_none hA3.kn hcd).symm
 clear e3 hA e2 h1 hA3
 walk_at "rd"
 refine Ga (hI.hf_fz e04.fz) fun nv5 hN5=>?_
 obtain⟨na,rfl,hS⟩:=hN5.nm
 refine Oh hS ?_
 refine Gg (Et (xs:=ns.map V.str)) (fun q i acc H5=>Same H4 H5/\∃ as:List Addr,as.length=i/\as.Nodup/\(∀ a∈as,H5 a=some (.dK (Nu ns fun _=>0))/\H4 a=none)/\PrsK K H5 (Lk (ns.take i) as) acc)
  (fun q H' hp e h=>⟨e,[],rfl,by simp,fun _ h=>(by cases h),by rfl⟩) (fun q i acc H5 hP=>hP.1.seqT hS) (fun q i x acc H5 hq5 hx hi hl ha hP=>?_) (fun q acc H5 hq5 ha hal hP=>?_)
 . obtain ⟨e5,as,hal,had,haf,hpr⟩:=hP
   rw[List.getElem?_map] at hx
   cases hz:ns[i]? with
   | none=>rw[hz] at hx;cases hx
   | some z=>
     rw[hz] at hx
     cases hx
     have hin:i<ns.length:=(List.getElem?_eq_some_iff.mp hz).1
     walk_at "rd"
     refine Ga (hI.hf_fz (e04.trans e5).fz) fun nv6 hN6=>?_
     obtain⟨na6,rfl,hS6⟩:=hN6.nm
     refine Oh hS6 ?_
     refine Gg (Et (xs:=ns.map V.str)) (fun q6 i6 acc6 H6=>Same H5 H6/\PrsK K H6 (Nu (ns.take i6) fun _=>0) acc6)
      (fun q6 H' hp e h=>⟨e,by rfl⟩) (fun q6 i6 acc6 H6 hP=>hP.1.seqT hS6) (fun q6 i6 x6 acc6 H6 hq6 hx6 hi6 hl6 ha6 hP=>?_) (fun q6 acc6 H6 hq6 ha6 hal6 hP=>?_)
     . obtain ⟨e6,hpr6⟩:=hP
       rw[List.getElem?_map] at hx6
       cases hz6:ns[i6]? with
       | none=>rw[hz6] at hx6;cases hx6
       | some z6=>
         rw[hz6] at hx6
         cases hx6
         walk_at "rd"
         refine Bn (Ac (by simp)) fun t H7 ht7 e7 h7=>?_
         have h7p:H7 q6=some (.lst acc6):=e7 _ _ ha6
         refine Je (by rw[List.length_map];omega) hi6 hl6 h7p fun H8 e8 h8=>?_
         have fz8:=e8.fzL h7p
         refine⟨(e6.trans e7).off hq6 e8,?_⟩
         rw[show Nu (ns.take (i6+1)) (fun _=>0)=Nu (ns.take i6) (fun _=>0)++[(Sum.inr z6,V.int 0)] by unfold Nu;rw[List.take_add_one,hz6,List.map_append];rfl]
         exact PrsK.snoc (kv:=(Sum.inr z6,V.int 0)) (fz8.seq (SqT.of h7)) (PrsK.fz (e7.fz.trans fz8) hpr6)
     obtain⟨e6,hpr6⟩:=hP
     rw[List.length_map,List.take_length] at hpr6
     walk_at "rd"
     refine Vo ha6 hpr6 (by unfold Nu;rw[List.length_map];omega) fun b H7 hb7 e7 h7=>?_
     rw[Gw _ _ (W4 hn _) (fun _ _ _ h=>by cases h),List.nil_append] at h7
     walk_at "rd"
     refine Bn (Ac (by simp)) fun t H8 ht8 e8 h8=>?_
     have e58:=(e6.trans e7).trans e8
     have h8q:H8 q=some (.lst acc):=e58 _ _ ha
     refine Je (by rw[List.length_map];omega) hi hl h8q fun H9 e9 h9=>?_
     have hbq:b≠q:=Ne.symm (ne_of_none (e6 _ _ ha) hb7)
     have fz9:=e9.fzL h8q
     refine⟨(e5.trans e58).off hq5 e9,as++[b],by simp[hal],?_,fun a ha'=>?_,?_⟩
     . rw[List.nodup_append]
       refine⟨had,by simp,fun a ha1 c hc e=>?_⟩
       have:c=b:=by simpa using hc
       subst this
       subst e
       have:=e6 _ _ (haf _ ha1).1
       rw[hb7] at this
       cases this
     . rcases List.mem_append.mp ha' with ha' | ha'
       . obtain⟨q1,q2⟩:=haf a ha'
         exact⟨e9 _ _ (ne_of q1 ha (by intro z;cases z)) (e58 _ _ q1),q2⟩
       have:a=b:=by simpa using ha'
       subst this
       exact⟨e9 _ _ hbq (e8 _ _ h7),e5.free (e6.free hb7)⟩
     have ht:ns.take (i+1)=ns.take i++[z]:=by rw[List.take_add_one,hz];rfl
     have hlen:(ns.take i).length=as.length:=by rw[List.length_take,hal];omega
     rw[ht,Qn hlen]
     exact PrsK.snoc (kv:=(Sum.inr z,V.ref b)) (fz9.seq (SqT.of h8)) (PrsK.fz (e58.fz.trans fz9) hpr)
 obtain⟨e5,as,hal5,had,haf,hpr⟩:=hP
 rw[List.length_map] at hal5
 rw[List.length_map,List.take_length] at hpr
 walk_at "rd"
 refine Vo ha hpr (by unfold Lk;rw[List.length_map,List.length_zip];omega) fun fd H6 hf6 e6 h6=>?_
 rw[Gw _ _ (Ln hn) (fun _ _ _ h=>by cases h),List.nil_append] at h6
 have hf4:H4 fd=none:=e5.free hf6
 have hfa:fd∉as:=fun hm=>by
  have:=(haf fd hm).1
  rw[hf6] at this
  cases this
 have hT6:TabN H6 fd ns as (fun _ _=>0):=⟨hal5,had,hfa,h6,fun j x a _ ha'=>e6 _ _ (haf a (List.mem_of_getElem? ha')).1⟩
 have hnew:∀ b,b=fd\/b∈as->H4 b=none:=fun b hb=>by
  rcases hb with rfl | hb
  . exact hf4
  exact(haf b hb).2
 have e46:=e5.trans e6
 have hA6:=hA4.same e46
 have h6c:=e46 _ _ h4
 walk_at "rd"
 refine Lz hA6.ob (by rfl) ?_
 refine Zd (as:=[kd]) (.inl hA6.kn) (by simp) fun o H7 k7 h7k=>?_
 have hpk:p≠kd:=ne_of hA6.ob hA6.kn (by intro z;cases z)
 have hW7:WaysB K C_Ways H7 p dx nv bd ad kd ns ps:=hA6.b.of k7.fz fun b o' hb q=>k7.1 b o' (by rcases hb with rfl | rfl | rfl<;>simp[hpk,hA6.nb,hA6.na]) q
 have hkas:∀ b,b=fd\/b∈as->b≠kd:=fun b hb z=>by
  have:=hnew b hb
  rw[z,hA4.kn] at this
  cases this
 have hT7:TabN H7 fd ns as (fun _ _=>0):=hT6.of fun b o' hb q=>k7.1 b o' (by simpa using hkas b hb) q
 have h7c:H7 cd=some (.dK (Fg ns ct)):=k7.1 _ _ (by simpa using hckd) h6c
 have e07:Same H H7:=fun b o' q=>k7.1 b o' (by simpa using ne_of_none q hkH) (e46 _ _ (e04 _ _ q))
 have hcas:cd≠fd/\cd∉as:=⟨fun z=>(by rw[z,hf4] at h4;cases h4),fun z=>(by rw[(haf cd z).2] at h4;cases h4)⟩
 have hW4:∀ b,b=p\/b=bd\/b=ad->∃ o',H4 b=some o':=fun b hb=>by
  rcases hb with rfl | rfl | rfl
  . exact⟨_,hA4.ob⟩
  . exact⟨_,hA4.bt⟩
  exact⟨_,hA4.ah⟩
 have hS7:Shr K C_Ways H H7 o p dx nv bd ad kd cd fd ns ps qs ct as (fun _ _=>0):=⟨e07,h7k,hW7,h7c,hT7,fun a ha=>e04.free (haf a ha).2,fun a ha=>by
  have h4a:=(haf a ha).2
  exact⟨hkas a (.inr ha),(ne_of_none hA4.ob h4a).symm,(ne_of_none hA4.bt h4a).symm,(ne_of_none hA4.ah h4a).symm,(ne_of_none h4 h4a).symm⟩⟩
 have hl:((knK ns ps qs).map fun kv=>kV kv.1)=qs.map fun q=>V.int ((Ao ns q:Nat):Int):=by
  unfold knK
  rw[List.map_map]
  rfl
 clear hW7 hT7 h7k h7c e07 hA6 hT6 h6 h6c haf hpr
 refine Ck W5 (fun i σ H8=>∃ x4 x5 x6 x7 x8 f,σ=[some v,some (.ref p),some (.ref cd),some (.ref fd),x4,x5,x6,x7,x8]/\Shr K C_Ways H H8 o p dx nv bd ad kd cd fd ns ps qs ct as f/\∀ x∈ns,∀ y∈ns,f x y=(((B5 ns qs).take i).map fun L=>Er ns (ind L) ct*Y8 (Ae ps) x y L).sum)
  ⟨_,_,_,_,_,_,rfl,hS7,fun x _ y _=>rfl⟩ (fun i σ' H' hP=>?_) (fun i x σ' H8 hx hi hP=>?_) (fun σ' H8 hP=>?_)
 . obtain⟨_,_,_,_,_,_,_,h,_⟩:=hP
   exact h.kn
 . obtain ⟨x4,x5,x6,x7,x8,f,rfl,hS8,hf8⟩:=hP
   rw[hl,List.getElem?_map] at hx
   cases he:qs[i]? with
   | none=>rw[he] at hx;cases hx
   | some e=>
     rw[he] at hx
     cases hx
     have hM:(B5 ns qs)[i]? = some (ns.filter e):=by
      unfold B5
      rw[List.getElem?_map,he]
      rfl
     have hsp:B5 ns qs=(B5 ns qs).take i++ns.filter e :: (B5 ns qs).drop (i+1):=by
      obtain⟨hi',hM'⟩:=List.getElem?_eq_some_iff.mp hM
      conv=>lhs;rw[<- List.take_append_drop i (B5 ns qs),List.drop_eq_getElem_cons hi',hM']
     have hat:=aa3 hG hsp
     have hLn:(ns.filter e).Nodup:=List.Nodup.sublist List.filter_sublist hn
     have hFn:(frF (Ae ps) (ns.filter e)).Nodup:=List.Nodup.sublist List.filter_sublist hLn
     walk_at "rd"
     refine af2 hS8.wb.ob (by rfl) ?_
     walk_at "rd"
     refine⟨p,dx,nv,bd,ad,kd,ns,ps,e,rfl,hS8.wb,hW,h10,fun l9 H9 hl9 e9 h9=>?_⟩
     refine G9 (SqL.of h9) ?_
     have hl9as:l9∉as:=fun z=>by
      obtain⟨j,hj⟩:=List.mem_iff_getElem?.mp z
      have hjl:=(List.getElem?_eq_some_iff.mp hj).1
      have:=hS8.tb.row j (ns[j]'(by rw[<- hal5];exact hjl)) l9 (List.getElem?_eq_getElem _) hj
      rw[hl9] at this
      cases this
     refine Ck (Av (xs:=(frF (Ae ps) (ns.filter e)).map V.str)) (fun m σ H10=>∃ y5 y6 y7 y8 f2,σ=[some v,some (.ref p),some (.ref cd),some (.ref fd),some (.int ((Ao ns e:Nat):Int)),y5,y6,y7,y8]/\H10 l9=some (.lst ((frF (Ae ps) (ns.filter e)).map V.str))/\Shr K C_Ways H H10 o p dx nv bd ad kd cd fd ns ps qs ct as f2/\∀ x∈ns,∀ y∈ns,f2 x y=f x y+if x∈(frF (Ae ps) (ns.filter e)).take m/\y∈Aa (ns.filter e) x then Er ns (ind (ns.filter e)) ct*cnt (Ae ps) (Aa (ns.filter e) x) else 0)
      ⟨_,_,_,_,_,rfl,h9,hS8.same e9,fun x _ y _=>by simp⟩ (fun m σ' H' hP=>?_) (fun m x10 σ' H10 hx10 hm hP=>?_) (fun σ' H10 hP=>?_)
     . obtain⟨_,_,_,_,_,_,h,_⟩:=hP
       exact SqL.of h
     . obtain ⟨y5,y6,y7,y8,f2,rfl,h10l,hS10,hf10⟩:=hP
       rw[List.getElem?_map] at hx10
       cases hz:(frF (Ae ps) (ns.filter e))[m]? with
       | none=>rw[hz] at hx10;cases hx10
       | some z=>
         rw[hz] at hx10
         cases hx10
         have hzf:=List.mem_of_getElem? hz
         have hzL:=(mem_frF.mp hzf).1
         have hzn:=(List.mem_filter.mp hzL).1
         have hsub:=Lf hn hzn (List.mem_filter.mp hzL).2
         have hval:((Ao ns e:Nat):Int)-((De ns z:Nat):Int)=((Ao ns (fun y=>e y && !decide (y=z)):Nat):Int):=by omega
         have hMk:ns.filter e∈Eo ns ct:=by
          rcases hat with q | ⟨_,q | ⟨N,hN,x,hx,q⟩⟩
          . rw[q] at hzf;cases hzf
          . rw[q];exact hC.k2
          rw[q];exact hC.k3 N ((List.drop_sublist _ _).subset hN) x hx
         have hRk:ns.filter (fun y=>e y && !decide (y=z))∈B5 ns qs:=by
          rw[C2]
          rcases hat with q | ⟨q,_⟩
          . rw[q] at hzf;cases hzf
          exact(List.take_sublist _ _).subset (q z hzf)
         have hcle:=hC.le hn h10 (ns.filter e)
         walk_at "rd"
         refine Lz hS10.wb.ob (by rfl) ?_
         walk_at "rd"
         refine i_ixD hS10.wb.bt (Eb hzn) ?_
         walk_at "rd"
         rw[hval]
         refine Pl hS10.cm (Nv hO hMk) ?_
         walk_at "rd"
         refine Lz hS10.wb.ob (by rfl) ?_
         walk_at "rd"
         refine a45 (.inr ⟨o,hS10.kn⟩) (Qg hRk) ?_
         walk_at "rd"
         rw[<- Int.natCast_mul,C2]
         refine Ga (hI.hf_fz hS10.sm.fz) fun nv11 hN11=>?_
         generalize hmany:Er ns (ind (ns.filter e)) ct*cnt (Ae ps) (Aa (ns.filter e) z)=many
         refine Kj hN11 (fun k' σ H11=>∃ z8 f3,σ=[some v,some (.ref p),some (.ref cd),some (.ref fd),some (.int ((Ao ns e:Nat):Int)),some (.str z),some (.int ((Ao ns (fun y=>e y && !decide (y=z)):Nat):Int)),some (.int ((many:Nat):Int)),z8]/\Fz H10 H11/\H11 l9=some (.lst ((frF (Ae ps) (ns.filter e)).map V.str))/\Shr K C_Ways H H11 o p dx nv bd ad kd cd fd ns ps qs ct as f3/\∀ x∈ns,∀ y∈ns,f3 x y=f2 x y+if x=z/\y∈ns.take k'/\y∈Aa (ns.filter e) z then many else 0)
          ⟨_,f2,rfl,.refl _,h10l,hS10,fun x _ y _=>by simp⟩ (fun k' σ' H' hP=>?_) (fun k' w σ' H11 hw hP=>?_) (fun σ' H11 hP=>?_)
         . obtain⟨_,_,_,h,_⟩:=hP
           exact h
         . obtain⟨z8,f3,rfl,fz11,h11l,hS11,hf11⟩:=hP
           have hwn:=List.mem_of_getElem? hw
           walk_at "rd"
           refine Lz hS11.wb.ob (by rfl) ?_
           walk_at "rd"
           refine i_ixD hS11.wb.bt (Eb hwn) ?_
           walk_at "rd"
           rw[Ss hn hwn]
           have hwt:w∉ns.take k':=fun hm=>by
            obtain⟨j,hj⟩:=List.mem_iff_getElem?.mp hm
            rw[List.getElem?_take] at hj
            split at hj
            . rename_i hji
              have a1:=List.getElem?_eq_some_iff.mp hj
              have a2:=List.getElem?_eq_some_iff.mp hw
              have:=(List.getElem_inj hn).mp (a1.2.trans a2.2.symm)
              omega
            cases hj
           have hwm:w∈Aa (ns.filter e) z↔(e w && !decide (w=z))=true:=by
            rw[<- C2,List.mem_filter]
            exact⟨fun q=>q.2,fun q=>⟨hwn,q⟩⟩
           have htk:ns.take (k'+1)=ns.take k'++[w]:=by rw[List.take_add_one,hw];rfl
           refine af0 (fun hb=>?_) (fun hb=>?_)
           . obtain⟨j,a,hj,haj⟩:=hS11.tb.at hzn
             have hrow:=hS11.tb.row j z a hj haj
             walk_at "rd"
             refine i_ixD hS11.tb.top (Eu hn hj haj) ?_
             walk_at "rd"
             refine i_ixD hrow (Eb hwn) ?_
             walk_at "rd"
             refine i_ixD hS11.tb.top (Eu hn hj haj) ?_
             walk_at "rd"
             refine Gv hrow (by unfold Nu;rw[List.length_map];omega) fun H12 e12 h12=>?_
             rw[<- Int.natCast_add] at h12
             have hS12:=hS11.put hn hj haj hwn e12 h12
             walk_at "rd"
             refine⟨_,_,rfl,fz11.trans (e12.fzD hrow),e12 _ _ (fun z=>hl9as (z ▸ List.mem_of_getElem? haj)) h11l,hS12,fun x hx y hy=>?_⟩
             show(if x=z/\y=w then f3 z w+many else f3 x y)=_
             rw[htk]
             by_cases c:x=z/\y=w
             . obtain⟨rfl,rfl⟩:=c
               rw[if_pos ⟨rfl,rfl⟩,hf11 x hx y hy,if_neg (fun q=>hwt q.2.1),if_pos ⟨rfl,by simp,hwm.mpr hb⟩]
               rfl
             rw[if_neg c,hf11 x hx y hy]
             congr 1
             by_cases c2:x=z/\y∈ns.take k'/\y∈Aa (ns.filter e) z
             . rw[if_pos c2,if_pos ⟨c2.1,List.mem_append_left _ c2.2.1,c2.2.2⟩]
             rw[if_neg c2,if_neg]
             rintro⟨c3,c4,c5⟩
             rcases List.mem_append.mp c4 with c4 | c4
             . exact c2 ⟨c3,c4,c5⟩
             exact c ⟨c3,by simpa using c4⟩
           walk_at "rd"
           refine⟨_,f3,rfl,fz11,h11l,hS11,fun x hx y hy=>?_⟩
           rw[hf11 x hx y hy,htk]
           congr 1
           by_cases c:x=z/\y∈ns.take k'/\y∈Aa (ns.filter e) z
           . rw[if_pos c,if_pos ⟨c.1,List.mem_append_left _ c.2.1,c.2.2⟩]
           rw[if_neg c,if_neg]
           rintro⟨c1,c2,c3⟩
           rcases List.mem_append.mp c2 with c2 | c2
           . exact c ⟨c1,c2,c3⟩
           have:y=w:=by simpa using c2
           subst this
           rw[hwm.mp c3] at hb
           cases hb
         obtain⟨z8,f3,rfl,fz11,h11l,hS11,hf11⟩:=hP
         refine⟨_,_,_,_,f3,rfl,h11l,hS11,fun x hx y hy=>?_⟩
         rw[hf11 x hx y hy,hf10 x hx y hy,List.take_length,List.take_add_one,hz,Nat.add_assoc]
         congr 1
         have hzt:z∉(frF (Ae ps) (ns.filter e)).take m:=fun hm=>by
          obtain⟨j,hj⟩:=List.mem_iff_getElem?.mp hm
          rw[List.getElem?_take] at hj
          split at hj
          . rename_i hji
            have a1:=List.getElem?_eq_some_iff.mp hj
            have a2:=List.getElem?_eq_some_iff.mp hz
            have:=(List.getElem_inj hFn).mp (a1.2.trans a2.2.symm)
            omega
          cases hj
         by_cases c:x=z
         . subst c
           by_cases c2:y∈Aa (ns.filter e) x
           . rw[if_neg (fun q=>hzt q.1),if_pos ⟨rfl,hy,c2⟩,if_pos ⟨by simp,c2⟩,hmany,Nat.zero_add]
           rw[if_neg (fun q=>c2 q.2),if_neg (fun q=>c2 q.2.2),if_neg (fun q=>c2 q.2)]
         rw[if_neg (fun q:x=z/\_=>c q.1),Nat.add_zero]
         by_cases c2:x∈(frF (Ae ps) (ns.filter e)).take m/\y∈Aa (ns.filter e) x
         . rw[if_pos c2,if_pos ⟨List.mem_append_left _ c2.1,c2.2⟩]
         rw[if_neg c2,if_neg]
         rintro⟨q1,q2⟩
         rcases List.mem_append.mp q1 with q1 | q1
         . exact c2 ⟨q1,q2⟩
         exact c (by simpa using q1)
     obtain⟨y5,y6,y7,y8,f2,rfl,h10l,hS10,hf10⟩:=hP
     refine⟨_,_,_,_,_,f2,rfl,hS10,fun x hx y hy=>?_⟩
     rw[hf10 x hx y hy,hf8 x hx y hy,List.length_map,List.take_length,List.take_add_one,hM,List.map_append,List.sum_append]
     congr 1
     show _=Er ns (ind (ns.filter e)) ct*Y8 (Ae ps) x y (ns.filter e)+0
     unfold Y8
     split
     . rfl
     rfl
 obtain⟨x4,x5,x6,x7,x8,f,rfl,hS8,hf8⟩:=hP
 walk_at "rd"
 refine k fd as f H8 hS8.sm hS8.tb fun x hx y hy hxy=>?_
 rw[hf8 x hx y hy,hl,List.length_map,show qs.length=(B5 ns qs).length by unfold B5;rw[List.length_map],List.take_length]
 exact hC.share hnd hW hx hy hxy
def Fu (K:PySem.W.Frag):Sp:=fun vs H Q _=>∃ v ns ps,vs=[v]/\Is K H (hfD ns ps) v/\HalfW ns ps/\ns.length<=10/\∀ l ys H',H l=none->Same H H'->H' l=some (.lst ys)->IsL K H' (quP ns ps) ys->Q (.ref l) H'
theorem Oj {ns:List Str}{ps:List (Str×Str)}(h:ns.length<=10):(unP ns ps).length<=100:=by
 unfold unP unK
 rw[List.length_flatMap]
 refine Nat.le_trans (G2 (c:=10) fun i _=>?_) (by rw[List.length_range];omega)
 unfold unR
 rw[List.length_map]
 exact Nat.le_trans (List.length_filter_le _ _) (by rw[List.length_drop];omega)
theorem Nf {f:Addr}{fd:FuncData}(F:Fun K "questions" "questions" Cn f fd)(T:Hc mg)(c_untold:Fnd P w K mg base 3 "untold" ["half"] (Jr K))(c_shares_of:Fnd P w K mg base 14 "shares_of" ["half"] (Fk K)):FnOk P w K mg base CX0 15 f fd ["half"] (Fu K):=by
 refine F.ok Hv (fun vs H Q E h=>?_) (fun cdv A outer s H vs Q E hr h=>?_)
 . obtain⟨v,ns,ps,rfl,_⟩:=h
   rfl
 obtain⟨v,ns,ps,rfl,hI,hW,h10,k⟩:=h
 have hu:=Cm hr
 have hq:=Cu hr
 have hn:=hW.nd
 with_reducible refine⟨_,(A3 (Ab (i:=1) Hv.nd (by ac_nf) (by with_unfolding_all exact Or.inr rfl) (As c_shares_of (hr.mono (by decide)) (by ac_nf) (A1 (pv 0) A2)))
  (A7 (B6 (Br ["pair"] ["shares"] [1] (by ac_nf) (by ac_nf) (by ac_nf) (Ak (K:=K) hu (As c_untold (hr.mono (by decide)) (by ac_nf) (A1 (pv 0) A2))) (fun _ _ _ _=>(A8 (i:=0) (by with_unfolding_all (show(["pair","shares"]:List Str).Nodup;decide +kernel)) (by ac_nf) (by eq_refl))) (B7 (by decide)) (fun _ _ _ _=>Dl) (fun _ _ _ _=>(Bm (A1 (pv 0) (A1 (Bm (A1 (Ah (A6 (K:=K) hu) (Ah (A6 (K:=K) hu) (pv 1) (Ah (A6 (K:=K) hu) (pv 0) A5 (by ac_rfl)) (by ac_rfl)) (Ah (A6 (K:=K) hu) (pv 0) A5 (by ac_rfl)) (by ac_rfl)) (A1 (Ah (A6 (K:=K) hu) (Ah (A6 (K:=K) hu) (pv 1) (Ah (A6 (K:=K) hu) (pv 0) A5 (by ac_rfl)) (by ac_rfl)) (Ah (A6 (K:=K) hu) (pv 0) A5 (by ac_rfl)) (by ac_rfl)) A2))) A2)))))))),?_⟩
 walk_at "rd"
 refine⟨v,ns,ps,rfl,hI,hW,h10,fun fd as f H1 e1 hT hf=>?_⟩
 walk_at "rd"
 refine⟨v,ns,ps,rfl,hI.hf_fz e1.fz,hW,fun u H2 e2 hu2=>?_⟩
 walk_at "rd"
 have hun:=Oj (ps:=ps) h10
 refine Tb hu2 (fun _=>true) (fun p=>qsD p (cnt (Ae (ps++[(p.1,p.2)])) ns) (cnt (Ae (ps++[(p.2,p.1)])) ns)) (fun _=>J2 ..) (by omega) (fun i p w H3 R R' hp hIw e3 hR hR'=>?_) (fun l ys H3 hl e3 h3 hL=>?_)
 . have hpm:=List.mem_of_getElem? hp
   obtain⟨m1,m2,_⟩:=Ut hpm
   have hne:=aa5 hn hpm
   have hT3:=hT.same (e2.trans e3)
   obtain⟨j1,a1,hj1,ha1⟩:=hT3.at m1
   obtain⟨j2,a2,hj2,ha2⟩:=hT3.at m2
   walk_at "rd"
   refine Sr hIw ?_
   walk_at "rd"
   refine i_ixD hT3.top (Eu hn hj1 ha1) ?_
   walk_at "rd"
   refine Vm hIw ?_
   walk_at "rd"
   refine i_ixD (hT3.row j1 p.1 a1 hj1 ha1) (Eb m2) ?_
   walk_at "rd"
   refine Vm hIw ?_
   walk_at "rd"
   refine i_ixD hT3.top (Eu hn hj2 ha2) ?_
   walk_at "rd"
   refine Sr hIw ?_
   walk_at "rd"
   refine i_ixD (hT3.row j2 p.2 a2 hj2 ha2) (Eb m1) ?_
   rw[hf p.1 m1 p.2 m2 hne,hf p.2 m2 p.1 m1 hne.symm]
   walk_at "rd"
   refine Bn (Ac (by simp)) fun t4 H4 ht4 e4 h4=>?_
   walk_at "rd"
   refine Bn (Ac (by simp)) fun t5 H5 ht5 e5 h5=>?_
   exact hR rfl _ _ (e4.trans e5) (Is.of_tup (SqT.of h5) (.cons (Is.mono (e4.trans e5) _ _ hIw) (.one (Is.of_tup (SqT.of (e5 _ _ h4)) (.cons Jw (.one Jw))))))
 rw[C4] at hL
 walk_at "rd"
 exact k l ys H3 (e1.free (e2.free hl)) ((e1.trans e2).trans e3) h3 hL
def lamQ:Str:=("best":Str) ++ ".<locals>." ++ "<lambda>"
abbrev LmT (P:Addr)(H:Hp):Prop:=LamT P 80 26 lamQ H
def qA (ns:List Str)(ps:List (Str×Str))(p:Str×Str):Nat:=cnt (Ae (ps++[(p.1,p.2)])) ns
def qB (ns:List Str)(ps:List (Str×Str))(p:Str×Str):Nat:=cnt (Ae (ps++[(p.2,p.1)])) ns
def qMn (ns:List Str)(ps:List (Str×Str))(p:Str×Str):Int:=if((qB ns ps p:Nat):Int)<((qA ns ps p:Nat):Int) then((qB ns ps p:Nat):Int) else((qA ns ps p:Nat):Int)
theorem Zu (ns:List Str)(ps:List (Str×Str)):Jl (quP ns ps)=true:=Dn _ (fun _=>J2 ..) _
theorem Ud (ns:List Str)(ps:List (Str×Str)):quP ns ps=(unP ns ps).map fun p=>qsD p (qA ns ps p) (qB ns ps p):=rfl
def aj1 (K:PySem.W.Frag)(H:Hp)(ns:List Str)(ps:List (Str×Str))(u:V):Prop:=(u = .non/\unP ns ps=[])\/∃ p∈unP ns ps,Is K H (qsD p (qA ns ps p) (qB ns ps p)) u/\∀ p'∈unP ns ps,qMn ns ps p'<=qMn ns ps p
def Oy (P:Addr)(K:PySem.W.Frag):Sp:=fun vs H Q _=>∃ v ns ps,vs=[v]/\Is K H (hfD ns ps) v/\HalfW ns ps/\ns.length<=10/\LmT P H/\∀ u H',ExtBut P H H'->LmT P H'->aj1 K H' ns ps u->Q u H'
theorem a49 {K:PySem.W.Frag}{H:Hp}{p:Str×Str}{m n:Nat}{v:V}(h:Is K H (qsD p m n) v):∃ a b x,v = .ref a/\SqT K H a [x,.ref b]/\SqT K H b [.int ((m:Nat):Int),.int ((n:Nat):Int)]:=by
 obtain⟨a,xs,rfl,h1,h2⟩:=Is.tup h
 obtain⟨v1,r1,rfl,i1,h2⟩:=Df h2
 obtain⟨v2,r2,rfl,i2,h2⟩:=Df h2
 have e:r2=[]:=by simpa only[L2.IsL] using h2
 subst e
 obtain⟨b,ys,rfl,g1,g2⟩:=Is.tup i2
 have:=IsL.int_eq (ns:=[((m:Nat):Int),((n:Nat):Int)]) g2
 subst this
 exact⟨a,b,v1,rfl,h1,g1⟩
theorem Vy {P:Addr}{H H':Hp}{ps:Array Value}(e:ExtBut P H H')(h:H P=some (.tbl ps)):Fz H H':=Qz e fun xs q=>by
 rcases q with q | ⟨o,q⟩
 . rw[h] at q;cases q
 rw[h] at q;cases q
theorem Iq {P:Addr}{a b:Nat}{q:Str}{H:Hp}(h:LamT P a b q H):∃ ps,H P=some (.tbl ps):=by
 rcases h with h | ⟨c,h,_⟩
 . exact⟨_,h⟩
 exact⟨_,h⟩
theorem a74 {K:PySem.W.Frag}{P:Addr}{line col:Nat}{qual:Str}{t:TA}{σ:L2.St}{H:Hp}{Q:VK}(k:t σ H fun vs H1=>LamT P line col qual H1/\∀ H2,ExtBut P H1 H2->LamT P line col qual H2->Zr K vs H2 Q):a93 K P line col qual t σ H Q:=k
theorem Zl {f:Addr}{fd:FuncData}(F:Fun K "best" "best" Kb f fd)(T:Hc mg){P_best:Addr}{c_bst:Addr}(lb:am0 K mg base c_bst P_best)(hcd:fd.code = .ref c_bst)(c_questions:Fnd P w K mg base 15 "questions" ["half"] (Fu K)):FnOk P w K mg base CX0 16 f fd ["half"] (Oy P_best K):=by
 refine Fun.okC F hcd Ta (fun vs H Q E h=>?_) (fun A outer s H vs Q E hr h=>?_)
 . obtain⟨v,ns,ps,rfl,_⟩:=h
   rfl
 obtain⟨v,ns,ps,rfl,hI,hW,h10,hT,k⟩:=h
 have hu:=Cm hr
 have hq:=Cu hr
 with_reducible refine⟨_,(A3 (Ab (i:=1) Ta.nd (by ac_nf) (by eq_refl) (As c_questions (hr.mono (by decide)) (by ac_nf) (A1 (pv 0) A2)))
  (A3 (G8 (Ar (Fs (K:=K) hq) (An (Bk (K:=K)) (by ac_nf) T.b_len PyProof.Rows.Boot.«len» (A1 (pv 1) A2)) A5 (Bx _)) (A7 (B6 Y6)) By)
  (A7 (B6 (Wi (K:=K) ⟨(by ac_nf),lb.hd,lb.bi,lb.gP⟩ (by ac_nf) hr.depth (by ac_nf) T.b_max T.b_min (A1 (pv 1) A2)))))),?_⟩
 walk_at "rd"
 refine⟨v,ns,ps,rfl,hI,hW,h10,fun l ys H1 hl e1 h1 hL1=>?_⟩
 have hyl:=IsL.length hL1
 rw[Ud,List.length_map] at hyl
 walk_at "rd"
 refine Nt (fun hc=>?_) (fun hc=>?_)
 . walk_at "rd"
   have h0:unP ns ps=[]:=List.length_eq_zero_iff.mp (by have:=V.int.inj hc;omega)
   exact k .non H1 e1.but (hT.same e1) (.inl ⟨rfl,h0⟩)
 have hpos:0<ys.length:=by
  rcases Nat.eq_zero_or_pos ys.length with z | z
  . exact absurd (by rw[z];rfl) hc
  exact z
 walk_at "rd"
 refine a74 ?_
 walk_at "rd"
 refine⟨hT.same e1,fun H2 e2 hT2=>?_⟩
 obtain⟨tps,htb⟩:=Iq (hT.same e1)
 have fz2:=Vy e2 htb
 have hlP:l≠_:=ne_of h1 htb (by intro z;cases z)
 have hL2:=IsL.fz fz2 _ _ (Zu ns ps) hL1
 have itm:∀(i:Nat) u,ys[i]? = some u->∃ p,(unP ns ps)[i]? = some p/\Is K H2 (qsD p (qA ns ps p) (qB ns ps p)) u:=fun i u hu'=>by
  obtain ⟨dd,hd,hIu⟩:=IsL.get hL2 hu'
  rw[Ud,List.getElem?_map] at hd
  cases hp:(unP ns ps)[i]? with
  | none=>rw[hp] at hd;cases hd
  | some p=>
    rw[hp] at hd
    cases hd
    exact⟨p,rfl,hIu⟩
 refine⟨l,ys,fun i=>qMn ns ps ((unP ns ps).getD i ("","")),rfl,SqL.of (e2 _ _ hlP h1),hpos,fun i u hu'=>?_,fun i u hu' hmax=>?_⟩
 . obtain⟨p,hp,hIu⟩:=itm i u hu'
   obtain⟨a,b,x,rfl,g1,g2⟩:=a49 hIu
   refine⟨a,b,x,_,_,rfl,g1,g2,?_⟩
   show qMn ns ps ((unP ns ps).getD i ("",""))=_
   rw[List.getD_eq_getElem?_getD,hp]
   rfl
 obtain⟨p,hp,hIu⟩:=itm i u hu'
 refine k u H2 (fun b o hb q=>e2 _ _ hb (e1 _ _ q)) hT2 (.inr ⟨p,List.mem_of_getElem? hp,hIu,fun p' hp'=>?_⟩)
 obtain⟨j,hj⟩:=List.mem_iff_getElem?.mp hp'
 have hj1:=(List.getElem?_eq_some_iff.mp hj).1
 have hm:=(hmax j (by omega)).1
 have g1:(unP ns ps).getD i ("","")=p:=by rw[List.getD_eq_getElem?_getD,hp];rfl
 have g2:(unP ns ps).getD j ("","")=p':=by rw[List.getD_eq_getElem?_getD,hj];rfl
 have hm':qMn ns ps ((unP ns ps).getD i ("",""))>=qMn ns ps ((unP ns ps).getD j ("","")):=hm
 rw[g1,g2] at hm'
 exact hm'
def Da (K:PySem.W.Frag):Sp:=fun vs H Q _=>∃ v ns ps,vs=[v]/\HfS K H v ns ps/\HalfW ns ps/\ns.length<=6/\∀ l ys H',H l=none->Same H H'->H' l=some (.lst ys)->IsL K H' ((ext (Ae ps) ns.length ns).map nmD) ys->Q (.ref l) H'
theorem K2 {f:Addr}{fd:FuncData}(F:Fun K "_law_orders" "_law_orders" Bu f fd)(T:Hc mg):FnOk P w K mg base CX0 1 f fd ["_law_half_here"] (Da K):=by
 refine F.ok B0 (fun vs H Q E h=>?_) (fun cdv A outer s H vs Q E hr h=>?_)
 . obtain⟨v,ns,ps,rfl,_⟩:=h
   rfl
 obtain⟨v,ns,ps,rfl,hI,hW,h6,k⟩:=h
 have hu:=Cm hr
 have hq:=Cu hr
 have hn:=hW.nd
 with_reducible refine⟨_,(A3 (Ab (i:=1) B0.nd (by ac_nf) (by eq_refl) (Cd (A1 (Bm A2) A2)))
  (A3 (Bs PassesOwn.never (by ac_nf) (Bz (by ac_nf) T.b_range (A1 (An (Bk (K:=K)) (by ac_nf) T.b_len PyProof.Rows.Boot.«len» (A1 (Ah (A6 (K:=K) hu) (pv 0) A5 (by ac_rfl)) A2)) A2)) (A8 (i:=2) B0.nd (by ac_nf) (by eq_refl))
  (A3 (Ab (i:=3) B0.nd (by ac_nf) (by eq_refl) (Cd A2))
  (A3 (Bs PassesOwn.never (by ac_nf) (Ak (K:=K) hu (pv 1)) (A8 (i:=4) B0.nd (by ac_nf) (by with_unfolding_all exact Or.inr rfl))
  (A3 (Ab (i:=5) B0.nd (by ac_nf) (by with_unfolding_all exact Or.inr rfl) (Br ["_law_name"] ["_law_row"] [4] (by ac_nf) (by ac_nf) (by ac_nf) (Ak (K:=K) hu (Ah (A6 (K:=K) hu) (pv 0) A5 (by ac_rfl))) (fun _ _ _ _=>(A8 (i:=0) (by with_unfolding_all (show(["_law_name","_law_row"]:List Str).Nodup;decide +kernel)) (by ac_nf) (by eq_refl))) (B7 (by decide)) (fun _ _ _ _=>(Di (Ar (Fx (K:=K) hq) (pv 0) (pv 1) (by ac_nf)))) (fun _ _ _ _=>(pv 0))))
  (A3 (Ab (i:=6) B0.nd (by ac_nf) (by with_unfolding_all exact Or.inr rfl) (Br ["_law_one","_law_other"] ["_law_left"] [5] (by ac_nf) (by ac_nf) (by ac_nf) (Ak (K:=K) hu (Ah (A6 (K:=K) hu) (pv 0) A5 (by ac_rfl))) (fun _ _ _ _=>(J5 (K:=K) (n:=2) (by ac_nf) (Db (A8 (i:=0) (by with_unfolding_all (show(["_law_one","_law_other","_law_left"]:List Str).Nodup;decide +kernel)) (by ac_nf) (by eq_refl)) (Db (A8 (i:=1) (by with_unfolding_all (show(["_law_one","_law_other","_law_left"]:List Str).Nodup;decide +kernel)) (by ac_nf) (by eq_refl)) J9)))) (Xx (Ly (by decide) (Ly (by decide) Yx))) (fun _ _ _ _=>(Di (Ar (Nn (K:=K) hq) (pv 0) (pv 2) (by ac_nf)))) (fun _ _ _ _=>(pv 1))))
  (A7 (Ei (Gd (K:=K) PySem.F.plainAttrs_list PySem.F.slot_list_extend PySem.F.type_list_extend (mm Iz) (pv 3) (A1 (Br ["_law_name"] ["_law_row","_law_later"] [4,6] (by ac_nf) (by ac_nf) (by ac_nf) (Ak (K:=K) hu (pv 5)) (fun _ _ _ _=>(A8 (i:=0) (by with_unfolding_all (show(["_law_name","_law_row","_law_later"]:List Str).Nodup;decide +kernel)) (by ac_nf) (by eq_refl))) (B7 (by decide)) (fun _ _ _ _=>(Di (Ar (Fx (K:=K) hq) (pv 0) (pv 2) (by ac_nf)))) (fun _ _ _ _=>(Ag (Ad (K:=K)) (pv 1) (Bm (A1 (pv 0) A2))))) A2)))))))
  (A7 (Ab (i:=1) B0.nd (by ac_nf) (by eq_refl) (pv 3))))))
  (A7 (B6 (pv 1))))),?_⟩
 walk_at "rd"
 refine Bn (by decide) fun t2 H2 ht2 e2 h2=>?_
 walk_at "rd"
 refine Cb (Ac (by simp)) fun l3 H3 hl3 e3 h3=>?_
 walk_at "rd"
 have e13:Same H H3:=e2.trans e3
 refine Yi (hI.same e13) fun nv hN=>?_
 walk_at "rd"
 refine Vb hN ?_
 walk_at "rd"
 refine Gc (by omega) ?_
 refine Ck Bf (fun i σ H4=>∃ l x2 x3 x4 x5 x6 ys,σ=[some v,some (.ref l),x2,x3,x4,x5,x6]/\Same H H4/\H l=none/\H4 l=some (.lst ys)/\IsL K H4 ((Dh (Ae ps) ns i [[]]).map nmD) ys)
  ⟨l3,_,_,_,_,_,[.ref t2],rfl,e13,e2.free hl3,h3,.one (Mq (SqT.of (e3 _ _ h2)))⟩ (fun _ _ _ _=>trivial) (fun i x σ H4 hx hi hP=>?_) (fun σ H4 hP=>?_)
 . obtain⟨l,x2,x3,x4,x5,x6,ys,rfl,e4,hl1,h4,hL4⟩:=hP
   obtain⟨rfl,hin⟩:=Dy hx
   have hrows:(Dh (Ae ps) ns i [[]]).length<=46656:=Nat.le_trans (Np _ _ _) (a53 h6 (by omega))
   have hyl:ys.length=(Dh (Ae ps) ns i [[]]).length:=by rw[<- IsL.length hL4,List.length_map]
   walk_at "rd"
   refine Cb (by decide) fun g H5 hg5 e5 h5=>?_
   walk_at "rd"
   have hlg:l≠g:=ne_of_none h4 hg5
   refine G9 (SqL.of (e5 _ _ h4)) ?_
   refine Ck (Av (xs:=ys)) (fun j σ H6=>∃ y4 y5 y6 zs,σ=[some v,some (.ref l),some (.int (0+(i:Int))),some (.ref g),y4,y5,y6]/\Same H4 H6/\H6 g=some (.lst zs)/\IsL K H6 ((Ec (Ae ps) ns ((Dh (Ae ps) ns i [[]]).take j)).map nmD) zs)
    ⟨_,_,_,[],rfl,e5,h5,.nil⟩ (fun j σ' H' hP=>?_) (fun j x σ' H6 hx6 hj hP=>?_) (fun σ' H6 hP=>?_)
   . obtain⟨_,_,_,_,_,e,_⟩:=hP
     exact SqL.of (e _ _ h4)
   . obtain⟨y4,y5,y6,zs,rfl,e6,h6g,hL6⟩:=hP
     obtain ⟨dr,hdr,hIr⟩:=IsL.get (IsL.mono e6 _ _ hL4) hx6
     rw[List.getElem?_map] at hdr
     cases hro:(Dh (Ae ps) ns i [[]])[j]? with
     | none=>rw[hro] at hdr;cases hdr
     | some row=>
       rw[hro] at hdr
       cases hdr
       have hrowm:=List.mem_of_getElem? hro
       have hrl:=Mp _ _ _ _ hrowm
       have e16:Same H H6:=e4.trans e6
       walk_at "rd"
       refine Yi (hI.same e16) fun nv6 hN6=>?_
       refine X8 hN6 (fun z=>!decide (z∈row)) PyData.str (fun _=>rfl) (by omega) (fun jj z H7 R R' hz e7 hR hR'=>?_) (fun lf ys7 H7 hlf7 e7 h7 hL7=>?_)
       . walk_at "rd"
         refine af1 (hIr.nm_fz e7.fz) ?_
         walk_at "rd"
         refine Rt (fun hb=>?_) (fun hb=>?_)
         . walk_at "rd"
           exact hR (by rw[hb];rfl) _ _ (.refl _) Jm
         exact hR' (by rw[hb];rfl) _ (.refl _)
       have hLf:=IsL.str_eq hL7
       subst hLf
       have h7':H7 lf=some (.lst ((Dc ns row).map V.str)):=h7
       have hlfl:(Dc ns row).length<=ns.length:=List.length_filter_le _ _
       have hglf:g≠lf:=ne_of_none h6g hlf7
       walk_at "rd"
       refine ag7 ((hI.same e16).same e7) fun pv7 hP7=>?_
       refine Tb hP7 (fun p=>decide (p.1∈Dc ns row)) (fun p=>PyData.str p.2) (fun _=>rfl) (by have:=hW.le;omega) (fun jj p w H8 R R' hp hIw e8 hR hR'=>?_) (fun lt ys8 H8 hlt8 e8 h8 hL8=>?_)
       . obtain⟨wa,rfl,hSw⟩:=hIw.pr
         walk_at "rd"
         refine Py hSw ?_
         walk_at "rd"
         refine Ur (e8.seq (SqL.of h7')) ?_
         walk_at "rd"
         refine Nt (fun hb=>?_) (fun hb=>?_)
         . walk_at "rd"
           exact hR (decide_eq_true hb) _ _ (.refl _) Jm
         exact hR' (decide_eq_false hb) _ (.refl _)
       rw[show((ps.filter fun p=>decide (p.1∈Dc ns row)).map fun p=>PyData.str p.2)=((ps.filter fun p=>decide (p.1∈Dc ns row)).map (·.2)).map PyData.str by rw[List.map_map];rfl] at hL8
       have hLt:=IsL.str_eq hL8
       subst hLt
       walk_at "rd"
       have h8l:=e8 _ _ h7'
       have hIr8:=hIr.nm_fz (e7.trans e8).fz
       refine Ik (SqL.of h8l) (fun z=>!decide (z∈(ps.filter fun p=>decide (p.1∈Dc ns row)).map (·.2))) (fun z=>nmD (row++[z])) (fun _=>Jc _) (by omega) (fun jj z H9 R R' hz e9 hR hR'=>?_) (fun q9 zs9 H9 hq9 e9 h9 hL9=>?_)
       . walk_at "rd"
         refine Za (e9.seq (SqL.of h8)) ?_
         walk_at "rd"
         refine Rt (fun hb=>?_) (fun hb=>?_)
         . walk_at "rd"
           refine Bn (Ac (by simp)) fun t11 H11 ht11 e11 h11=>?_
           obtain⟨ra,rfl,hSr⟩:=(hIr8.nm_fz (e9.trans e11).fz).nm
           refine ab9 hSr (SqT.of h11) (Ac (by rw[List.length_map];simp;omega)) fun p12 H12 e12 h12=>?_
           exact hR (by rw[hb];rfl) _ _ (e11.trans e12) (Mq (by rw[List.map_append];exact h12))
         exact hR' (by rw[hb];rfl) _ (.refl _)
       rw[X1 hW.mem hrowm] at hL9
       have hg9:=(((e7.trans e8).trans e9) _ _ h6g)
       have hzl:=IsL.length hL9
       have hzl6:=IsL.length hL6
       rw[List.length_map] at hzl hzl6
       have hfl:(frF (Ae ps) (Dc ns row)).length<=6:=Nat.le_trans (List.length_filter_le _ _) (by omega)
       have hgl:=K4 (Ae ps) ns _ j h6 hrows
       walk_at "rd"
       refine T3 hg9 h9 (by omega) fun H10 e10 h10=>?_
       have fz10:=e10.fzL hg9
       walk_at "rd"
       refine⟨_,_,_,_,rfl,((e6.trans ((e7.trans e8).trans e9))).off hg5 e10,h10,?_⟩
       rw[R1 _ _ hro,List.map_append,List.map_map]
       exact IsL.append (IsL.fz (((e7.trans e8).trans e9).fz.trans fz10) _ _ (Kv _) hL6) (IsL.fz fz10 _ _ (Dn _ (fun _=>Jc _) _) hL9)
   obtain⟨y4,y5,y6,zs,rfl,e6,h6g,hL6⟩:=hP
   rw[hyl,List.take_length] at hL6
   walk_at "rd"
   refine⟨g,_,_,_,_,_,zs,rfl,e4.trans e6,e4.free hg5,h6g,?_⟩
   rw[Em]
   exact hL6
 obtain⟨l,x2,x3,x4,x5,x6,ys,rfl,e4,hl1,h4,hL4⟩:=hP
 walk_at "rd"
 refine k l ys H4 hl1 e4 h4 ?_
 have:((ns.length:Nat):Int).toNat=ns.length:=by omega
 rw[<- Uo]
 simpa using hL4
def Ev (K:PySem.W.Frag):Sp:=fun vs H Q _=>∃ l x y rows ys,vs=[.ref l,.str x,.str y]/\SqL K H l ys/\IsL K H (rows.map nmD) ys/\(∀ r∈rows,x∈r/\y∈r)/\rows.length<=1000000 /\
 ∀ t la lb ya yb H',Same H H'->SqT K H' t [.ref la,.ref lb]->H' la=some (.lst ya)->ya.length=Ep rows x y->H' lb=some (.lst yb)->yb.length=Ep rows y x->Q (.ref t) H'
theorem Kz {f:Addr}{fd:FuncData}(F:Fun K "_law_parts" "_law_parts" C8 f fd)(T:Hc mg):FnOk P w K mg base CX0 1 f fd ["_law_orders_here","_law_one","_law_other"] (Ev K):=by
 refine F.ok Gq (fun vs H Q E h=>?_) (fun cdv A outer s H vs Q E hr h=>?_)
 . obtain⟨l,x,y,rows,ys,rfl,_⟩:=h
   rfl
 obtain⟨l,x,y,rows,ys,rfl,hl,hL,hm,hz,k⟩:=h
 have hu:=Cm hr
 have hq:=Cu hr
 have hyl:=IsL.length hL
 rw[List.length_map] at hyl
 with_reducible refine⟨_,(A3 (Dr (i:=3) ["_law_order"] ["_law_one","_law_other"] [1,2] (by ac_nf) (by ac_nf) (by ac_nf) Gq.nd (by ac_nf) (by ac_nf) (Ak (K:=K) hu (pv 0)) (fun _ _ _ _=>(A8 (i:=0) (by with_unfolding_all (show(["_law_order","_law_one","_law_other"]:List Str).Nodup;decide +kernel)) (by ac_nf) (by eq_refl))) (B7 (by decide)) (fun _ _ _ _=>(Di (Ar a48 (Px (K:=K) PySem.F.slot_tuple_index PySem.F.type_tuple_index (G7 (K:=K)) (pv 0) (A1 (pv 1) A2)) (Px (K:=K) PySem.F.slot_tuple_index PySem.F.type_tuple_index (G7 (K:=K)) (pv 0) (A1 (pv 2) A2)) (Bx _)))) (fun _ _ _ _=>(pv 0)))
  (A7 (B6 (Bm (A1 (pv 3) (A1 (Br ["_law_order"] ["_law_one","_law_other"] [1,2] (by ac_nf) (by ac_nf) (by ac_nf) (Ak (K:=K) hu (pv 0)) (fun _ _ _ _=>(A8 (i:=0) (by with_unfolding_all (show(["_law_order","_law_one","_law_other"]:List Str).Nodup;decide +kernel)) (by ac_nf) (by eq_refl))) (B7 (by decide)) (fun _ _ _ _=>(Di (Ar a05 (Px (K:=K) PySem.F.slot_tuple_index PySem.F.type_tuple_index (G7 (K:=K)) (pv 0) (A1 (pv 1) A2)) (Px (K:=K) PySem.F.slot_tuple_index PySem.F.type_tuple_index (G7 (K:=K)) (pv 0) (A1 (pv 2) A2)) (Bx _)))) (fun _ _ _ _=>(pv 0))) A2)))))),?_⟩
 walk_at "rd"
 refine G9 hl (Cz (K:=K) (Av (xs:=ys)) rows hyl (fun r=>decide (r.idxOf x<r.idxOf y)) nmD (fun _=>Jc _) (by omega) (fun H' e=>e.seq hl) (fun i r v H1 R R' hr' hv e1 hR hR'=>?_) (fun la ya H1 hla e1 h1 hL1=>?_))
 . obtain⟨dd,hd,hI⟩:=IsL.get (IsL.mono e1 _ _ hL) hv
   rw[List.getElem?_map,hr'] at hd
   cases hd
   obtain⟨ra,rfl,hS⟩:=hI.nm
   obtain⟨m1,m2⟩:=hm r (List.mem_of_getElem? hr')
   obtain⟨f1,f2,_⟩:=Hy m1
   obtain⟨g1,g2,_⟩:=Hy m2
   walk_at "rd"
   refine X6 hS ?_
   walk_at "rd"
   refine Ig hS f1 f2 ?_
   walk_at "rd"
   refine X6 hS ?_
   walk_at "rd"
   refine Ig hS g1 g2 ?_
   walk_at "rd"
   refine Nt (fun hb=>?_) (fun hb=>?_)
   . walk_at "rd"
     exact hR (decide_eq_true (by omega)) _ _ (.refl _) hI
   exact hR' (decide_eq_false (by omega)) _ (.refl _)
 have hyl1:=IsL.length hL1
 rw[List.length_map] at hyl1
 have hl1:=e1.seq hl
 have hLb:=IsL.mono e1 _ _ hL
 walk_at "rd"
 refine G9 hl1 (Cz (K:=K) (Av (xs:=ys)) rows hyl (fun r=>decide (r.idxOf y<r.idxOf x)) nmD (fun _=>Jc _) (by omega) (fun H' e=>e.seq hl1) (fun i r v H2 R R' hr' hv e2 hR hR'=>?_) (fun lb yb H2 hlb e2 h2 hL2=>?_))
 . obtain⟨dd,hd,hI⟩:=IsL.get (IsL.mono e2 _ _ hLb) hv
   rw[List.getElem?_map,hr'] at hd
   cases hd
   obtain⟨ra,rfl,hS⟩:=hI.nm
   obtain⟨m1,m2⟩:=hm r (List.mem_of_getElem? hr')
   obtain⟨f1,f2,_⟩:=Hy m1
   obtain⟨g1,g2,_⟩:=Hy m2
   walk_at "rd"
   refine X6 hS ?_
   walk_at "rd"
   refine Ig hS f1 f2 ?_
   walk_at "rd"
   refine X6 hS ?_
   walk_at "rd"
   refine Ig hS g1 g2 ?_
   walk_at "rd"
   refine Nt (fun hb=>?_) (fun hb=>?_)
   . walk_at "rd"
     exact hR (decide_eq_true (by omega)) _ _ (.refl _) hI
   exact hR' (decide_eq_false (by omega)) _ (.refl _)
 have hyl2:=IsL.length hL2
 rw[List.length_map] at hyl2
 walk_at "rd"
 refine Bn (Ac (by simp)) fun t H3 ht e3 h3=>?_
 exact k t la lb ya yb H3 ((e1.trans e2).trans e3) (SqT.of h3) ((e2.trans e3) _ _ h1) hyl1.symm (e3 _ _ h2) hyl2.symm
def Cl (K:PySem.W.Frag):Sp:=fun vs H Q _=>∃ v l ns rows ys,vs=[v,.ref l]/\NmS K H v ns/\SqL K H l ys/\IsL K H (rows.map nmD) ys/\(∀ r∈rows,∀ x∈ns,x∈r)/\ns.length<=10/\rows.length<=1000000 /\
 ∀ q zs H',H q=none->Same H H'->H' q=some (.lst zs)->IsL K H' (quK ns (Ep rows) ns.length) zs->Q (.ref q) H'
theorem Um (ns:List Str)(A:Str->Str->Nat)(i m:Nat):Jl (quR ns A i m)=true:=Dn _ (fun _=>J2 ..) _
theorem Kr:∀ {a b:List PyData},Jl a=true->Jl b=true->Jl (a++b)=true
 | [],b,_,h=>h
 | x :: a,b,h,g=>by
   have h:(frz x&&Jl a)=true:=h
   rw[Bool.and_eq_true] at h
   show(frz x&&Jl (a++b))=true
   rw[h.1,Kr h.2 g]
   rfl
theorem Vc (ns:List Str)(A:Str->Str->Nat):∀ k,Jl (quK ns A k)=true
 | 0=>rfl
 | k+1=>by rw[L1];exact Kr (Vc ns A k) (Um ..)
theorem Tw (ns:List Str)(A:Str->Str->Nat)(i m:Nat):(quR ns A i m).length<=ns.length:=by
 unfold quR
 rw[List.length_map]
 refine Nat.le_trans (List.length_filter_le _ _) ?_
 rw [List.length_take,List.length_drop]
 omega
theorem Nz (ns:List Str)(A:Str->Str->Nat):∀ k,(quK ns A k).length<=k*ns.length
 | 0=>by simp[quK]
 | k+1=>by
   rw[L1,List.length_append,Nat.succ_mul]
   have:=Nz ns A k
   have:=Tw ns A k ns.length
   omega
theorem Ho {f:Addr}{fd:FuncData}(F:Fun K "_law_questions" "_law_questions" B8 f fd)(T:Hc mg)(c__law_parts:Fnd P w K mg base 1 "_law_parts" ["_law_orders_here","_law_one","_law_other"] (Ev K)):FnOk P w K mg base CX0 2 f fd ["_law_names_here","_law_orders_here"] (Cl K):=by
 refine F.ok B2 (fun vs H Q E h=>?_) (fun cdv A outer s H vs Q E hr h=>?_)
 . obtain⟨v,l,ns,rows,ys,rfl,_⟩:=h
   rfl
 obtain⟨v,l,ns,rows,ys,rfl,hN,hl,hL,hm,h10,hz,k⟩:=h
 have hu:=Cm hr
 have hq:=Cu hr
 with_reducible refine⟨_,(A3 (Ab (i:=2) B2.nd (by ac_nf) (by eq_refl) (Cd A2))
  (A3 (Bs PassesOwn.never (by ac_nf) (Bz (by ac_nf) T.b_range (A1 (An (Bk (K:=K)) (by ac_nf) T.b_len PyProof.Rows.Boot.«len» (A1 (pv 0) A2)) A2)) (A8 (i:=3) B2.nd (by ac_nf) (by eq_refl))
  (A7 (Bs PassesOwn.never (by ac_nf) (Ak (K:=K) hu (Ay (Le (K:=K)) (pv 0) (B4 (Ag (Ad (K:=K)) (pv 3) A5)) C3)) (A8 (i:=4) B2.nd (by ac_nf) (by eq_refl))
  (A3 (Yl (As c__law_parts (hr.mono (by decide)) (by ac_nf) (A1 (pv 1) (A1 (Ah (A6 (K:=K) hu) (pv 0) (pv 3) (by ac_rfl)) (A1 (pv 4) A2)))) (J5 (K:=K) (n:=2) (by ac_nf) (Db (A8 (i:=5) B2.nd (by ac_nf) (by eq_refl)) (Db (A8 (i:=6) B2.nd (by ac_nf) (by eq_refl)) J9))))
  (A7 (G8 (PW.pt (Tm (Ar (Wf (K:=K) hq) (pv 5) (Cd A2) (Bx _)) (Pb (Ar (Wf (K:=K) hq) (pv 6) (Cd A2) (Bx _))))) (A7 (Ei (Gd (K:=K) PySem.F.plainAttrs_list PySem.F.slot_list_append PySem.F.type_list_append (mm Fi) (pv 2) (A1 (Bm (A1 (Bm (A1 (Ah (A6 (K:=K) hu) (pv 0) (pv 3) (by ac_rfl)) (A1 (pv 4) A2))) (A1 (Bm (A1 (An (Bk (K:=K)) (by ac_nf) T.b_len PyProof.Rows.Boot.«len» (A1 (pv 5) A2)) (A1 (An (Bk (K:=K)) (by ac_nf) T.b_len PyProof.Rows.Boot.«len» (A1 (pv 6) A2)) A2))) A2))) A2)))) By))))))
  (A7 (B6 (pv 2))))),?_⟩
 walk_at "rd"
 refine Cb (by decide) fun q H1 hq1 e1 h1=>?_
 walk_at "rd"
 refine Vb (hN.same e1) ?_
 walk_at "rd"
 refine Gc (by omega) ?_
 refine Ck Bf (fun i σ H2=>∃ x3 x4 x5 x6 zs,σ=[some v,some (.ref l),some (.ref q),x3,x4,x5,x6]/\Same H H2/\H2 q=some (.lst zs)/\IsL K H2 (quK ns (Ep rows) i) zs)
  ⟨_,_,_,_,[],rfl,e1,h1,.nil⟩ (fun _ _ _ _=>trivial) (fun i x σ H2 hx hi hP=>?_) (fun σ H2 hP=>?_)
 . obtain⟨x3,x4,x5,x6,zs,rfl,e2,h2,hL2⟩:=hP
   obtain⟨rfl,hin⟩:=Dy hx
   have hin':i<ns.length:=by omega
   have hzx:ns[i]? = some (ns.getD i ""):=by simp[List.getD,List.getElem?_eq_getElem hin']
   have hxm:=List.mem_of_getElem? hzx
   have hzl:=IsL.length hL2
   have hkl:=Nz ns (Ep rows) i
   have hk100:i*ns.length<=100:=Nat.le_trans (Nat.mul_le_mul (by omega:i<=10) h10) (by decide)
   walk_at "rd"
   refine a77 h2 (hN.same e2) (by omega) (by omega) fun sv H3 e3 hN3=>?_
   rw[show(0+(i:Int)+1).toNat=i+1 by omega] at hN3
   have h3:=e3 _ _ h2
   refine a38 hN3 (fun m σ H4=>∃ y4 y5 y6 zs',σ=[some v,some (.ref l),some (.ref q),some (.int (0+(i:Int))),y4,y5,y6]/\ExtBut q H3 H4/\Fz H3 H4/\Same H H4/\H4 q=some (.lst zs')/\IsL K H4 (quK ns (Ep rows) i++quR ns (Ep rows) i m) zs')
    ⟨_,_,_,zs,rfl,.refl,.refl _,e2.trans e3,h3,by simpa[quR] using IsL.mono e3 _ _ hL2⟩ (fun m σ' H' hP=>?_) (fun m y σ' H4 hy hP=>?_) (fun σ' H4 hP=>?_)
   . obtain⟨_,_,_,_,_,h,h',_⟩:=hP
     exact⟨h,h'⟩
   . obtain⟨y4,y5,y6,zs',rfl,b4,fz4,e4,h4,hL4⟩:=hP
     have hyn:y∈ns:=(List.drop_sublist _ _).subset (List.mem_of_getElem? hy)
     have hzl4:=IsL.length hL4
     rw[List.length_append] at hzl4
     have hrl:=Tw ns (Ep rows) i m
     walk_at "rd"
     refine Xt (hN.same e4) (by rw[Int.zero_add];exact Bj hzx) ?_
     walk_at "rd"
     refine⟨l,ns.getD i "",y,rows,ys,rfl,e4.seq hl,IsL.mono e4 _ _ hL,fun r hr=>⟨hm r hr _ hxm,hm r hr _ hyn⟩,hz,fun t la lb ya yb H5 e5 ht hla hya hlb hyb=>?_⟩
     refine Py ht ?_
     walk_at "rd"
     refine Cb (by decide) fun n6 H6 hn6 e6 h6=>?_
     walk_at "rd"
     refine Yc (SqL.of (e6 _ _ hla)) (SqL.of h6) ?_
     walk_at "rd"
     have e46:=e5.trans e6
     have zero:∀ {ys:List V} {n:Nat},ys.length=n->ys.isEmpty=true->n=0:=fun {ys n} h g=>by
      cases ys with
      | nil=>exact h.symm
      | cons a r=>cases g
     have pos:∀ {ys:List V} {n:Nat},ys.length=n->ys.isEmpty=false->n≠0:=fun {ys n} h g=>by
      cases ys with
      | nil=>cases g
      | cons a r=>rw[List.length_cons] at h;omega
     have skp:¬ (Ep rows (ns.getD i "") y≠0/\Ep rows y (ns.getD i "")≠0)->∀ {H7},Same H4 H7->ExtBut q H3 H7/\Fz H3 H7/\Same H H7/\H7 q=some (.lst zs')/\IsL K H7 (quK ns (Ep rows) i++quR ns (Ep rows) i (m+1)) zs':=fun c {H7} e7=>by
      refine⟨b4.same e7,fz4.trans e7.fz,e4.trans e7,e7 _ _ h4,?_⟩
      rw[Pr hy,if_neg c,List.append_nil]
      exact IsL.mono e7 _ _ hL4
     refine Rt (fun hb=>?_) (fun hb=>?_)
     . walk_at "rd"
       refine Cb (by decide) fun n7 H7 hn7 e7 h7=>?_
       walk_at "rd"
       refine Yc (SqL.of ((e6.trans e7) _ _ hlb)) (SqL.of h7) ?_
       walk_at "rd"
       have e47:=e46.trans e7
       refine Rt (fun hb2=>?_) (fun hb2=>?_)
       . walk_at "rd"
         refine Xt ((hN.same e4).same e47) (by rw[Int.zero_add];exact Bj hzx) ?_
         walk_at "rd"
         refine Bn (Ac (by simp)) fun t8 H8 ht8 e8 h8=>?_
         walk_at "rd"
         refine i_lenL (((e6.trans e7).trans e8) _ _ hla) ?_
         walk_at "rd"
         refine i_lenL (((e6.trans e7).trans e8) _ _ hlb) ?_
         walk_at "rd"
         refine Bn (Ac (by simp)) fun t9 H9 ht9 e9 h9=>?_
         walk_at "rd"
         refine Bn (Ac (by simp)) fun t10 H10 ht10 e10 h10'=>?_
         walk_at "rd"
         have e410:=((e47.trans e8).trans e9).trans e10
         have h410:=e410 _ _ h4
         refine Qh h410 (by omega) fun H11 e11 h11=>?_
         have fz11:=e11.fzL h410
         walk_at "rd"
         refine⟨_,_,_,_,rfl,(b4.same e410).trans e11,(fz4.trans e410.fz).trans fz11,(e4.trans e410).off hq1 e11,h11,?_⟩
         rw[Pr hy,if_pos ⟨pos hya hb,pos hyb hb2⟩,<- List.append_assoc]
         refine IsL.append (IsL.fz (e410.fz.trans fz11) _ _ (Kr (Vc ..) (Um ..)) hL4) (.one ?_)
         rw[hya,hyb] at h9
         refine Is.fz fz11 _ _ (J2 ..) (Is.of_tup (SqT.of h10') (.cons (Is.mono (e9.trans e10) _ _ (Ny (SqT.of h8))) (.one (Is.of_tup (e10.seqT (SqT.of h9)) (.cons Jw (.one Jw))))))
       walk_at "rd"
       exact⟨_,_,_,_,rfl,skp (fun c=>c.2 (zero hyb hb2)) e47⟩
     walk_at "rd"
     exact⟨_,_,_,_,rfl,skp (fun c=>c.1 (zero hya hb)) e46⟩
   obtain⟨y4,y5,y6,zs',rfl,b4,fz4,e4,h4,hL4⟩:=hP
   refine⟨_,_,_,_,zs',rfl,e4,h4,?_⟩
   rw[L1]
   have:quR ns (Ep rows) i (ns.drop (i+1)).length=quR ns (Ep rows) i ns.length:=by
    unfold quR
    rw[List.take_length,List.take_of_length_le (by rw[List.length_drop];omega)]
   rw[<- this]
   exact hL4
 obtain⟨x3,x4,x5,x6,zs,rfl,e2,h2,hL2⟩:=hP
 walk_at "rd"
 refine k q zs H2 hq1 e2 h2 ?_
 simpa using hL2
theorem Yf {k:Nat}:∀ {ds:List PyData},(∀ e∈ds,e.weight<=k)->PyData.weightAll ds<=ds.length*(k+1)
 | [],_=>by simp only[PyData.weightAll];omega
 | d :: ds,h=>by
   have h1:=h d (by simp)
   have h2:=Yf (ds:=ds) fun e he=>h e (by simp[he])
   simp only[PyData.weightAll,List.length_cons,Nat.succ_mul]
   omega
theorem a86 {z:Str}(h:Qv z=true):Asc z:=fun c hc=>by
 unfold Qv at h
 rw[Bool.and_eq_true,List.all_eq_true] at h
 have:=h.2 c hc
 unfold Hr at this
 rw[Bool.and_eq_true,decide_eq_true_eq,decide_eq_true_eq] at this
 omega
theorem a00 {p W:Nat}{ns:List Str}(h:∀ z∈ns,Qv z=true)(hl:ns.length<=W):Els p (ns.length*9) W (ns.map PyData.str):=by
 refine⟨fun e he=>?_,?_,by simpa using hl⟩
 . obtain⟨z,hz,rfl⟩:=List.mem_map.mp he
   exact⟨8,ah4 (a86 (h z hz)) (Yo (h z hz))⟩
 have:=Yf (k:=8) (ds:=ns.map PyData.str) fun e he=>by
  obtain⟨z,hz,rfl⟩:=List.mem_map.mp he
  simp only[PyData.weight]
  exact Yo (h z hz)
 simpa using this
theorem ak2 {p W:Nat}{q:Str×Str}(h1:Qv q.1=true)(h2:Qv q.2=true)(hW:2<=W):Dk (p+1) 18 W (prD q):=by
 have:=a00 (p:=p) (W:=W) (ns:=[q.1,q.2]) (fun z hz=>by
  simp only[List.mem_cons,List.not_mem_nil,or_false] at hz
  rcases hz with rfl | rfl
  . exact h1
  exact h2) hW
 exact Wh this
def Ey (P:Addr)(K:PySem.W.Frag):Sp:=fun vs H Q _=>∃ v l ns ps,∃ U:List (Str×Str),∃ ys,vs=[v,.ref l]/\Is K H (hfD ns ps) v/\HalfW ns ps/\(∀ z∈ns,Qv z=true)/\ns.length<=10/\H l=some (.lst ys)/\U.Perm (unP ns ps)/\IsL K H (U.map fun p=>qsD p (qA ns ps p) (qB ns ps p)) ys/\LmT P H/\∀ H',ExtBut P H H'->LmT P H'->Q (.bl true) H'
theorem aj3 {p:Str×Str}{m n:Nat}(h1:Qv p.1=true)(h2:Qv p.2=true)(hm:m<=3628800)(hn:n<=3628800):Dk 2 400 2 (qsD p m n):=by
 have d1:Dk 1 18 2 (prD p):=ak2 (p:=0) h1 h2 (Nat.le_refl _)
 have i1:∀ k:Nat,k<=3628800->Dk 0 150 2 (.int ((k:Nat):Int)):=fun k hk=>a67 (by omega)
 have d2:Dk 1 302 2 (.tuple [.int ((m:Nat):Int),.int ((n:Nat):Int)]):=Wh (Els.app (Els.one (i1 m hm) (by decide)) (Els.one (i1 n hn) (by decide)) (by simp) (Nat.le_refl _))
 exact(Wh (Els.app (Els.one d1 (by decide)) (Els.one d2 (by decide)) (by simp) (Nat.le_refl _))).le (Nat.le_refl _) (by omega) (Nat.le_refl _)
theorem J7 {K:PySem.W.Frag}{H:Hp}{Q:VK}{a:Addr}{xs:List V}{i:Int}{v:V}(h:SqT K H a xs)(e:atI xs i=some v)(k:Q v H):Jx K (.ref a) (.int i) H Q:=.inl (.inr (.inl ⟨a,xs,i,v,rfl,rfl,h,e,k⟩))
theorem L5 {f:Addr}{fd:FuncData}(F:Fun K "_law_right" "_law_right" C5 f fd)(T:Hc mg){P_best:Addr}(c_best:Fnd P w K mg base 16 "best" ["half"] (Oy P_best K)):FnOk P w K mg base CX0 17 f fd ["_law_half_here","_law_due"] (Ey P_best K):=by
 refine F.ok Fc (fun vs H Q E h=>?_) (fun cdv A outer s H vs Q E hr h=>?_)
 . obtain⟨v,l,ns,ps,U,ys,rfl,_⟩:=h
   rfl
 obtain⟨v,l,ns,ps,U,ys,rfl,hI,hW,hnm,h10,hl,hU,hL,hT,k⟩:=h
 have hu:=Cm hr
 have hq:=Cu hr
 have hyl:=IsL.length hL
 rw[List.length_map] at hyl
 have hun:=Oj (ps:=ps) h10
 have hUl:=hU.length_eq
 have told:∀ p∈unP ns ps,(qsD p (qA ns ps p) (qB ns ps p)).showable=true/\(qsD p (qA ns ps p) (qB ns ps p)).shown.length<=sizeLine/\(qsD p (qA ns ps p) (qB ns ps p)).depth<=100:=fun p hp=>by
  obtain⟨m1,m2,_⟩:=Ut hp
  exact(aj3 (hnm _ m1) (hnm _ m2) (Ky hW.nd h10) (Ky hW.nd h10)).told (by decide) (by decide)
 with_reducible refine⟨_,(A3 (Ab (i:=2) Fc.nd (by ac_nf) (by eq_refl) (As c_best (hr.mono (by decide)) (by ac_nf) (A1 (pv 0) A2)))
  (A3 (G8 (Ar (Z2 (K:=K) hq) (pv 1) (Cd A2) (Bx _)) (A7 (B6 (Hn af8 (pv 2) Y6 (Bx _)))) By)
  (A3 (Ab (i:=3) Fc.nd (by ac_nf) (by with_unfolding_all exact Or.inr rfl) (An (Ru (K:=K) (by ac_nf)) (by ac_nf) T.b_max PyProof.Rows.Boot.«max» (A1 (Br ["_law_one"] [] [] (by ac_nf) (by ac_nf) (by ac_nf) (Ak (K:=K) hu (pv 1)) (fun _ _ _ _=>(A8 (i:=0) (by with_unfolding_all (show(["_law_one"]:List Str).Nodup;decide +kernel)) (by ac_nf) (by eq_refl))) (B7 (by decide)) (fun _ _ _ _=>Dl) (fun _ _ _ _=>(An (K6 (K:=K) (by ac_nf)) (by ac_nf) T.b_min PyProof.Rows.Boot.«min» (A1 (Ah (A6 (K:=K) hu) (pv 0) A5 (by ac_rfl)) A2)))) A2)))
  (A7 (B6 (Hn (Nn (K:=K) hq) (An (Ix (K:=K) hq) (by ac_nf) T.b_repr PyProof.Rows.Boot.«repr» (A1 (pv 2) A2)) (Br ["_law_one"] ["_law_most"] [3] (by ac_nf) (by ac_nf) (by ac_nf) (Ak (K:=K) hu (pv 1)) (fun _ _ _ _=>(A8 (i:=0) (by with_unfolding_all (show(["_law_one","_law_most"]:List Str).Nodup;decide +kernel)) (by ac_nf) (by eq_refl))) (B7 (by decide)) (fun _ _ _ _=>(Di (Ar (Fs (K:=K) hq) (An (K6 (K:=K) (by ac_nf)) (by ac_nf) T.b_min PyProof.Rows.Boot.«min» (A1 (Ah (A6 (K:=K) hu) (pv 0) A5 (by ac_rfl)) A2)) (pv 1) (Bx _)))) (fun _ _ _ _=>(An (Ix (K:=K) hq) (by ac_nf) T.b_repr PyProof.Rows.Boot.«repr» (A1 (pv 0) A2)))) (by ac_nf))))))),?_⟩
 walk_at "rd"
 refine⟨v,ns,ps,rfl,hI,hW,h10,hT,fun u H1 e1 hT1 hB=>?_⟩
 obtain⟨tps,htb⟩:=Iq hT
 have fz1:=Vy e1 htb
 have hlP:l≠_:=ne_of hl htb (by intro z;cases z)
 have hl1:=e1 _ _ hlP hl
 have hL1:=IsL.fz fz1 _ _ (Dn _ (fun _=>J2 ..) _) hL
 walk_at "rd"
 refine Cb (by decide) fun n2 H2 hn2 e2 h2=>?_
 walk_at "rd"
 refine a90 (SqL.of (e2 _ _ hl1)) (SqL.of h2) ?_
 walk_at "rd"
 have itm:∀ {H':Hp},Same H1 H'->∀(i:Nat) w p,U[i]? = some p->ys[i]? = some w->Is K H' (qsD p (qA ns ps p) (qB ns ps p)) w:=fun {H'} e i w p hp hw=>by
  obtain⟨dd,hd,hIu⟩:=IsL.get (IsL.mono e _ _ hL1) hw
  rw[List.getElem?_map,hp] at hd
  cases hd
  exact hIu
 refine af0 (fun hc=>?_) (fun hc=>?_)
 . have h0:unP ns ps=[]:=by
    cases ys with
    | nil=>exact List.length_eq_zero_iff.mp (by rw[<- hUl];simpa using hyl)
    | cons a r=>cases hc
   rcases hB with ⟨rfl,_⟩ | ⟨p,hp,_⟩
   . walk_at "rd"
     exact k H2 (fun b o hb q=>e2 _ _ (e1 _ _ hb q)) (hT1.same e2)
   rw[h0] at hp
   cases hp
 have hne:unP ns ps≠[]:=fun z=>by
  rw[z] at hUl
  have:ys=[]:=List.length_eq_zero_iff.mp (by rw[<- hyl,hUl];rfl)
  rw[this] at hc
  cases hc
 rcases hB with ⟨rfl,h0⟩ | ⟨p,hp,hIu,hmax⟩
 . exact absurd h0 hne
 walk_at "rd"
 refine G9 (SqL.of (e2 _ _ hl1)) (Cz (K:=K) (Av (xs:=ys)) U hyl (fun _=>true) (fun q=>PyData.int (qMn ns ps q)) (fun _=>rfl) (by omega) (fun H' e=>e.seq (SqL.of (e2 _ _ hl1))) (fun i q w H3 R R' hq' hw e3 hR hR'=>?_) (fun ml mys H3 hml e3 h3 hL3=>?_))
 . obtain⟨a,b,x,rfl,g1,g2⟩:=a49 (itm (e2.trans e3) i w q hq' hw)
   walk_at "rd"
   refine J7 g1 (Bj (j:=1) rfl) ?_
   walk_at "rd"
   refine Ym g2 ?_
   exact hR rfl _ _ (.refl _) Jw
 rw[C4,show U.map (fun q=>PyData.int (qMn ns ps q))=(U.map (qMn ns ps)).map PyData.int by rw[List.map_map];rfl] at hL3
 have hmy:=IsL.int_eq hL3
 subst hmy
 walk_at "rd"
 refine a99 (SqL.of h3) (fun z=>hne (by have:=List.map_eq_nil_iff.mp z;rw[this] at hU;exact hU.symm.eq_nil)) fun M hM1 hM2=>?_
 have hMp:M=qMn ns ps p:=by
  obtain⟨p',hp',rfl⟩:=List.mem_map.mp hM1
  have h1:=hmax p' (hU.mem_iff.mp hp')
  have h2:=hM2 _ (List.mem_map.mpr ⟨p,hU.mem_iff.mpr hp,rfl⟩)
  omega
 subst hMp
 have e13:=e2.trans e3
 obtain⟨t1,t2,t3⟩:=told p hp
 walk_at "rd"
 refine Tp (Is.mono e13 _ _ hIu) t1 t2 t3 ?_
 walk_at "rd"
 refine G9 (SqL.of (e13 _ _ hl1)) (Cz (K:=K) (Av (xs:=ys)) U hyl (fun q=>decide (qMn ns ps q=qMn ns ps p)) (fun q=>PyData.str (qsD q (qA ns ps q) (qB ns ps q)).shown) (fun _=>rfl) (by omega) (fun H' e=>e.seq (SqL.of (e13 _ _ hl1))) (fun i q w H4 R R' hq' hw e4 hR hR'=>?_) (fun rl rys H4 hrl e4 h4 hL4=>?_))
 . have hIw:=itm (e13.trans e4) i w q hq' hw
   obtain⟨a,b,x,rfl,g1,g2⟩:=a49 hIw
   walk_at "rd"
   refine J7 g1 (Bj (j:=1) rfl) ?_
   walk_at "rd"
   refine Ym g2 ?_
   walk_at "rd"
   refine Nt (fun hb=>?_) (fun hb=>?_)
   . obtain⟨s1,s2,s3⟩:=told q (hU.mem_iff.mp (List.mem_of_getElem? hq'))
     walk_at "rd"
     refine Tp hIw s1 s2 s3 ?_
     exact hR (decide_eq_true (V.int.inj hb)) _ _ (.refl _) Jm
   exact hR' (decide_eq_false fun z=>hb (congrArg V.int z)) _ (.refl _)
 rw[show(U.filter fun q=>decide (qMn ns ps q=qMn ns ps p)).map (fun q=>PyData.str (qsD q (qA ns ps q) (qB ns ps q)).shown)=((U.filter fun q=>decide (qMn ns ps q=qMn ns ps p)).map fun q=>(qsD q (qA ns ps q) (qB ns ps q)).shown).map PyData.str by rw[List.map_map];rfl] at hL4
 have hry:=IsL.str_eq hL4
 subst hry
 walk_at "rd"
 refine Ur (SqL.of h4) ?_
 rw[decide_eq_true (List.mem_map.mpr ⟨p,List.mem_filter.mpr ⟨hU.mem_iff.mpr hp,by simp⟩,rfl⟩)]
 exact k H4 (fun b o hb q=>e4 _ _ (e13 _ _ (e1 _ _ hb q))) (hT1.same (e13.trans e4))
def q3D (q:(Str×Str)×Nat×Nat):PyData:=qsD q.1 q.2.1 q.2.2
def Fa (K:PySem.W.Frag):Sp:=fun vs H Q _=>∃ l,∃ qs:List ((Str×Str)×Nat×Nat),∃ ys,∃ c:Nat,vs=[.ref l,.int ((c:Nat):Int)]/\H l=some (.lst ys)/\IsL K H (qs.map q3D) ys/\qs.length<=1000/\c<=3628800 /\
 ∀ l' ys' H',H l'=none->Same H H'->H' l'=some (.lst ys')->IsL K H' (qs.map fun q=>qsD q.1 (q.2.1*c) (q.2.2*c)) ys'->Q (.ref l') H'
theorem aa0 {K:PySem.W.Frag}{H:Hp}{p:Str×Str}{m n:Nat}{v:V}(h:Is K H (qsD p m n) v):∃ a b x,v = .ref a/\SqT K H a [x,.ref b]/\Is K H (prD p) x/\SqT K H b [.int ((m:Nat):Int),.int ((n:Nat):Int)]:=by
 obtain⟨a,xs,rfl,h1,h2⟩:=Is.tup h
 obtain⟨v1,r1,rfl,i1,h2⟩:=Df h2
 obtain⟨v2,r2,rfl,i2,h2⟩:=Df h2
 have e:r2=[]:=by simpa only[L2.IsL] using h2
 subst e
 obtain⟨b,ys,rfl,g1,g2⟩:=Is.tup i2
 have:=IsL.int_eq (ns:=[((m:Nat):Int),((n:Nat):Int)]) g2
 subst this
 exact⟨a,b,v1,rfl,h1,i1,g1⟩
theorem Kx {f:Addr}{fd:FuncData}(F:Fun K "_law_times" "_law_times" C6 f fd)(T:Hc mg):FnOk P w K mg base CX0 1 f fd ["_law_asked","_law_many"] (Fa K):=by
 refine F.ok Lp (fun vs H Q E h=>?_) (fun cdv A outer s H vs Q E hr h=>?_)
 . obtain⟨l,qs,ys,c,rfl,_⟩:=h
   rfl
 obtain⟨l,qs,ys,c,rfl,hl,hL,hz,hc,k⟩:=h
 have hu:=Cm hr
 have hq:=Cu hr
 have hyl:=IsL.length hL
 rw[List.length_map] at hyl
 with_reducible refine⟨_,(A7 (B6 (Br ["_law_pair","_law_shares"] ["_law_many"] [1] (by ac_nf) (by ac_nf) (by ac_nf) (Ak (K:=K) hu (pv 0)) (fun _ _ _ _=>(J5 (K:=K) (n:=2) (by ac_nf) (Db (A8 (i:=0) (by with_unfolding_all (show(["_law_pair","_law_shares","_law_many"]:List Str).Nodup;decide +kernel)) (by ac_nf) (by eq_refl)) (Db (A8 (i:=1) (by with_unfolding_all (show(["_law_pair","_law_shares","_law_many"]:List Str).Nodup;decide +kernel)) (by ac_nf) (by eq_refl)) J9)))) (Xx (Ly (by decide) (Ly (by decide) Yx))) (fun _ _ _ _=>Dl) (fun _ _ _ _=>(Bm (A1 (pv 0) (A1 (Bm (A1 (Ag Ct (Ah (A6 (K:=K) hu) (pv 1) A5 (by ac_rfl)) (pv 2)) (A1 (Ag Ct (Ah (A6 (K:=K) hu) (pv 1) A5 (by ac_rfl)) (pv 2)) A2))) A2))))))),?_⟩
 walk_at "rd"
 refine G9 (SqL.of hl) (Cz (K:=K) (Av (xs:=ys)) qs hyl (fun _=>true) (fun q=>qsD q.1 (q.2.1*c) (q.2.2*c)) (fun _=>J2 ..) (by omega) (fun H' e=>e.seq (SqL.of hl)) (fun i q w H1 R R' hq' hw e1 hR hR'=>?_) (fun l' ys' H1 hl' e1 h1 hL1=>?_))
 . obtain⟨dd,hd,hIu⟩:=IsL.get (IsL.mono e1 _ _ hL) hw
   rw[List.getElem?_map,hq'] at hd
   cases hd
   obtain⟨a,b,x,rfl,g1,g2,g3⟩:=aa0 hIu
   have hcm:∀ n:Int,CMul n ((c:Nat):Int):=fun n=>.inr ⟨by omega,by omega⟩
   refine Py g1 ?_
   walk_at "rd"
   refine J7 g3 (Bj (j:=0) rfl) ?_
   walk_at "rd"
   first | refine i_mulBI (hcm _) ?_ | skip
   walk_at "rd"
   refine J7 g3 (Bj (j:=1) rfl) ?_
   walk_at "rd"
   first | refine i_mulBI (hcm _) ?_ | skip
   walk_at "rd"
   refine Bn (Ac (by simp)) fun t2 H2 ht2 e2 h2=>?_
   walk_at "rd"
   refine Bn (Ac (by simp)) fun t3 H3 ht3 e3 h3=>?_
   rw[<- Int.natCast_mul,<- Int.natCast_mul] at h2
   exact hR rfl _ _ (e2.trans e3) (Is.of_tup (SqT.of h3) (.cons (Is.mono (e2.trans e3) _ _ g2) (.one (Is.of_tup (e3.seqT (SqT.of h2)) (.cons Jw (.one Jw))))))
 rw[C4] at hL1
 walk_at "rd"
 exact k l' ys' H1 hl' e1 h1 hL1
def PartAt (K:PySem.W.Frag)(H:Hp)(q:Addr)(v:V)(ls:List Str)(ps:List (Str×Str)):Prop:=∃ t sa oa ys,v = .ref t/\SqT K H t [.ref sa,.ref oa]/\H sa=some (.lst (ls.map V.str))/\H oa=some (.lst ys)/\IsL K H ((ext (Ae ps) ls.length ls).map nmD) ys/\sa≠q/\oa≠q
theorem PartAt.of {K:PySem.W.Frag}{H H':Hp}{q:Addr}{v:V}{ls:List Str}{ps:List (Str×Str)}(h:PartAt K H q v ls ps)(f:Fz H H')(e:∀ b xs,b≠q->H b=some (.lst xs)->H' b=some (.lst xs)):PartAt K H' q v ls ps:=by
 obtain⟨t,sa,oa,ys,rfl,h1,h2,h3,h4,h5,h6⟩:=h
 exact⟨t,sa,oa,ys,rfl,f.seq h1,e _ _ h5 h2,e _ _ h6 h3,IsL.fz f _ _ (Kv _) h4,h5,h6⟩
theorem PartAt.same {K:PySem.W.Frag}{H H':Hp}{q:Addr}{v:V}{ls:List Str}{ps:List (Str×Str)}(h:PartAt K H q v ls ps)(e:Same H H'):PartAt K H' q v ls ps:=h.of e.fz fun b xs _ g=>e _ _ g
theorem PartAt.draw {K:PySem.W.Frag}{H H':Hp}{f l q:Addr}{v:V}{ls:List Str}{ps:List (Str×Str)}(h:PartAt K H q v ls ps)(hF:Feed H f l)(e:ExtBut f H H'):PartAt K H' q v ls ps:=h.of (hF.fz e) fun b xs _ g=>e _ _ (hF.lst g) g
def PrtL (K:PySem.W.Frag)(H:Hp)(q:Addr)(pvs:List V)(dn:List (List Str×List (Str×Str))):Prop:=pvs.length=dn.length/\∀(j:Nat) v e,pvs[j]? = some v->dn[j]? = some e->PartAt K H q v e.1 e.2
theorem PrtL.of {K:PySem.W.Frag}{H H':Hp}{q:Addr}{pvs:List V}{dn:List (List Str×List (Str×Str))}(h:PrtL K H q pvs dn)(f:Fz H H')(e:∀ b xs,b≠q->H b=some (.lst xs)->H' b=some (.lst xs)):PrtL K H' q pvs dn:=⟨h.1,fun j v e' h1 h2=>(h.2 j v e' h1 h2).of f e⟩
theorem PrtL.snoc {K:PySem.W.Frag}{H:Hp}{q:Addr}{pvs:List V}{dn:List (List Str×List (Str×Str))}{v:V}{e:List Str×List (Str×Str)}(h:PrtL K H q pvs dn)(g:PartAt K H q v e.1 e.2):PrtL K H q (pvs++[v]) (dn++[e]):=by
 refine⟨by rw[List.length_append,List.length_append,h.1];rfl,fun j v' e' h1 h2=>?_⟩
 by_cases c:j<pvs.length
 . rw[List.getElem?_append_left c] at h1
   rw[List.getElem?_append_left (h.1 ▸ c)] at h2
   exact h.2 j v' e' h1 h2
 rw[List.getElem?_append_right (by omega)] at h1
 rw[List.getElem?_append_right (by rw[<- h.1];omega),<- h.1] at h2
 cases z:j-pvs.length with
 | zero=>
   rw[z] at h1 h2
   cases h1
   cases h2
   exact g
 | succ n=>
   rw[z] at h1
   cases h1
def Gk (K:PySem.W.Frag):Sp:=fun vs H Q _=>∃ f l,vs=[.ref f]/\Feed H f l/\∀ t hv pl ns A B pA pB S va vb H',ExtBut f H H'->Feed H' f l->SqT K H' t [hv,.ref pl]->Is K H' (hfD ns S) hv->H pl=none->H' pl=some (.lst [va,vb])->PartAt K H' pl va A pA->PartAt K H' pl vb B pB->Two ns A B pA pB S->Q (.ref t) H'
theorem On {f:Addr}{fd:FuncData}(F:Fun K "_law_two" "_law_two" Ds f fd)(T:Hc mg)(c__law_draw:Fnd P w K mg base 1 "_law_draw" ["_law_feed_here","_law_many"] (Bl K))(c__law_names:Fnd P w K mg base 2 "_law_names" ["_law_feed_here","_law_many"] (Do K))(c__law_shuffled:Fnd P w K mg base 2 "_law_shuffled" ["_law_feed_here","_law_some"] (C0 K))(c__law_pairs:Fnd P w K mg base 2 "_law_pairs" ["_law_feed_here","_law_line"] (Dp K))(c__law_orders:Fnd P w K mg base 1 "_law_orders" ["_law_half_here"] (Da K)):FnOk P w K mg base CX0 3 f fd ["_law_feed_here"] (Gk K):=by
 refine F.ok B3 (fun vs H Q E h=>?_) (fun cdv A outer s H vs Q E hr h=>?_)
 . obtain⟨f,l,rfl,_⟩:=h
   rfl
 obtain⟨f,l,rfl,hF,k⟩:=h
 have hu:=Cm hr
 have hq:=Cu hr
 with_reducible refine⟨_,(A3 (Ab (i:=1) B3.nd (by ac_nf) (by eq_refl) (As c__law_names (hr.mono (by decide)) (by ac_nf) (A1 (pv 0) (A1 (Ag (Ad (K:=K)) A5 (As c__law_draw (hr.mono (by decide)) (by ac_nf) (A1 (pv 0) (A1 A5 A2)))) A2))))
  (A3 (Ab (i:=2) B3.nd (by ac_nf) (by eq_refl) (As c__law_shuffled (hr.mono (by decide)) (by ac_nf) (A1 (pv 0) (A1 (pv 1) A2))))
  (A3 (Ab (i:=3) B3.nd (by ac_nf) (by eq_refl) (An (Sc (by ac_nf)) (by ac_nf) T.b_max PyProof.Rows.Boot.«max» (A1 (Ag Gp (An (Bk (K:=K)) (by ac_nf) T.b_len PyProof.Rows.Boot.«len» (A1 (pv 2) A2)) A5) (A1 (An (Uf (by ac_nf)) (by ac_nf) T.b_min PyProof.Rows.Boot.«min» (A1 A5 (A1 (As c__law_draw (hr.mono (by decide)) (by ac_nf) (A1 (pv 0) (A1 (Ag (Ad (K:=K)) (An (Bk (K:=K)) (by ac_nf) T.b_len PyProof.Rows.Boot.«len» (A1 (pv 2) A2)) A5) A2))) A2))) A2))))
  (A3 (Ab (i:=4) B3.nd (by ac_nf) (by eq_refl) (Cd A2))
  (A3 (Ab (i:=5) B3.nd (by ac_nf) (by eq_refl) (Cd A2))
  (A3 (Bs PassesOwn.never (by ac_nf) (Ak (K:=K) hu (Bm (A1 (Ay (Le (K:=K)) (pv 2) C3 (B4 (pv 3))) (A1 (Ay (Le (K:=K)) (pv 2) (B4 (pv 3)) C3) A2)))) (A8 (i:=6) B3.nd (by ac_nf) (by eq_refl))
  (A3 (Ab (i:=7) B3.nd (by ac_nf) (by eq_refl) (Au (Cw (K:=K)) (by ac_nf) T.b_tuple PyProof.Rows.Boot.«tuple» (A1 (Ay (Le (K:=K)) (As c__law_pairs (hr.mono (by decide)) (by ac_nf) (A1 (pv 0) (A1 (pv 6) A2))) C3 (B4 A5)) A2)))
  (A3 (Ei (Gd (K:=K) PySem.F.plainAttrs_list PySem.F.slot_list_append PySem.F.type_list_append (mm Fi) (pv 5) (A1 (Bm (A1 (pv 6) (A1 (As c__law_orders (hr.mono (by decide)) (by ac_nf) (A1 (Bm (A1 (pv 6) (A1 (pv 7) A2))) A2)) A2))) A2)))
  (A7 (Ab (i:=4) B3.nd (by ac_nf) (by eq_refl) (Ag (Ad (K:=K)) (pv 4) (Au (Hg (K:=K)) (by ac_nf) T.b_list PyProof.Rows.Boot.«list» (A1 (pv 7) A2))))))))
  (A3 (Bs PassesOwn.never (by ac_nf) (Ak (K:=K) hu (Ay (Le (K:=K)) (pv 2) C3 (B4 (pv 3)))) (A8 (i:=8) B3.nd (by ac_nf) (by with_unfolding_all exact Or.inr rfl))
  (A7 (Ab (i:=4) B3.nd (by ac_nf) (by eq_refl) (Ag (Ad (K:=K)) (pv 4) (Br ["_law_other"] ["_law_one"] [8] (by ac_nf) (by ac_nf) (by ac_nf) (Ak (K:=K) hu (Ay (Le (K:=K)) (pv 2) (B4 (pv 3)) C3)) (fun _ _ _ _=>(A8 (i:=0) (by with_unfolding_all (show(["_law_other","_law_one"]:List Str).Nodup;decide +kernel)) (by ac_nf) (by eq_refl))) (B7 (by decide)) (fun _ _ _ _=>Dl) (fun _ _ _ _=>(Bm (A1 (pv 1) (A1 (pv 0) A2)))))))))
  (A7 (B6 (Bm (A1 (Bm (A1 (Au (Cw (K:=K)) (by ac_nf) T.b_tuple PyProof.Rows.Boot.«tuple» (A1 (pv 1) A2)) (A1 (Au (Cw (K:=K)) (by ac_nf) T.b_tuple PyProof.Rows.Boot.«tuple» (A1 (As c__law_shuffled (hr.mono (by decide)) (by ac_nf) (A1 (pv 0) (A1 (pv 4) A2))) A2)) A2))) (A1 (pv 5) A2)))))))))))),?_⟩
 walk_at "rd"
 refine⟨f,l,_,rfl,hF,by omega,by omega,fun c1 H1 hc0 hc1 e1 hF1=>?_⟩
 walk_at "rd"
 refine⟨f,l,_,rfl,hF1,by omega,by omega,fun nl ns H2 hn2 e2 hF2 h2 hN hnl=>?_⟩
 walk_at "rd"
 refine⟨f,l,nl,_,rfl,hF2,.inl (SqL.of h2),by rw[List.length_map];omega,fun ll ys H3 hl3 e3 hF3 h3 hpm=>?_⟩
 obtain⟨ls,rfl,hpl⟩:=M7 hpm
 have hll:=hpl.length_eq
 clear hpm
 walk_at "rd"
 refine⟨f,l,_,rfl,hF3,by rw[List.length_map];omega,by rw[List.length_map];omega,fun c4 H4 h40 h41 e4 hF4=>?_⟩
 rw[List.length_map] at h41
 walk_at "rd"
 refine⟨_,_,rfl,?_⟩
 walk_at "rd"
 refine⟨_,_,rfl,?_⟩
 obtain⟨c,hc,hc5,hcn,hcb⟩:∃ c:Nat,(if(if c4<5 then c4 else 5)>((ls.map V.str).length:Int)-5 then(if c4<5 then c4 else 5) else((ls.map V.str).length:Int)-5)=(c:Int)/\c<=5/\c<=ls.length/\ls.length<=c+5:=by
  rw[List.length_map]
  refine⟨(if(if c4<5 then c4 else 5)>((ls.length:Nat):Int)-5 then(if c4<5 then c4 else 5) else((ls.length:Nat):Int)-5).toNat,?_,?_,?_,?_⟩<;>split<;>split<;>omega
 rw[hc]
 have h24:=e4 _ _ (hF3.lst (e3 _ _ (hF2.lst h2) h2)) (e3 _ _ (hF2.lst h2) h2)
 have h34:=e4 _ _ (hF3.lst h3) h3
 have b04:ExtBut f H H4:=fun b o hb q=>e4 _ _ hb (e3 _ _ hb (e2 _ _ hb (e1 _ _ hb q)))
 clear e1 e2 e3 e4 hF1 hF2 hF3 h2 h3
 walk_at "rd"
 refine Cb (Ac (by simp)) fun sl H5 hsl5 e5 h5=>?_
 walk_at "rd"
 refine Cb (Ac (by simp)) fun pl H6 hpl6 e6 h6=>?_
 walk_at "rd"
 refine Gj (SqL.of ((e5.trans e6) _ _ h34)) fun a1 H7 ha1 e7 h7=>?_
 rw[Ed (by omega),<- List.map_take] at h7
 walk_at "rd"
 refine Gj (SqL.of (((e5.trans e6).trans e7) _ _ h34)) fun a2 H8 ha2 e8 h8=>?_
 rw[G0 (by omega) (by rw[List.length_map];omega),<- List.map_drop] at h8
 walk_at "rd"
 refine Bn (Ac (by simp)) fun t9 H9 ht9 e9 h9=>?_
 walk_at "rd"
 have e49:=((((e5.trans e6).trans e7).trans e8).trans e9)
 have hF9:=hF4.same e49
 have h9s:=(((e6.trans e7).trans e8).trans e9) _ _ h5
 have h9p:=((e7.trans e8).trans e9) _ _ h6
 have h91:=(e8.trans e9) _ _ h7
 have h92:=e9 _ _ h8
 have hlsn:ls.Nodup:=hpl.nodup_iff.mpr hN.1
 have hpn:∀ {b:Addr} {xs:List V},H5 b=some (.lst xs)->b≠pl:=fun {b xs} h=>ne_of_none h hpl6
 have hl6:l≠pl:=by
  obtain⟨_,_,_,_,_,z,_⟩:=hF4.same e5
  exact ne_of_none z hpl6
 have h1p:a1≠pl:=(ne_of_none h6 ha1).symm
 have h2p:a2≠pl:=(ne_of_none (e7 _ _ h6) ha2).symm
 have hllp:ll≠pl:=hpn (e5 _ _ h34)
 have hnlp:nl≠pl:=hpn (e5 _ _ h24)
 have hpl4:H4 pl=none:=e5.free hpl6
 have hplf:pl≠f:=fun z=>by
  obtain⟨_,_,_,_,z1,_⟩:=hF4
  rw[<- z,hpl4] at z1
  cases z1
 have hplH:H pl=none:=by
  cases z:H pl with
  | none=>rfl
  | some o=>rw[b04 _ _ hplf z] at hpl4;cases hpl4
 refine Oh (SqT.of h9) ?_
 refine Ck (Et (xs:=[.ref a1,.ref a2])) (fun i σ H'=>∃ x6 x7 sl svs pvs dn,σ=[some (.ref f),some (.ref nl),some (.ref ll),some (.int ((c:Nat):Int)),some (.ref sl),some (.ref pl),x6,x7,none]/\ExtBut f H H'/\Feed H' f l/\SqT K H' t9 [.ref a1,.ref a2]/\H' a1=some (.lst ((ls.take c).map V.str))/\H' a2=some (.lst ((ls.drop c).map V.str))/\H' nl=some (.lst (ns.map V.str))/\H' ll=some (.lst (ls.map V.str))/\H' pl=some (.lst pvs)/\PrtL K H' pl pvs dn/\H' sl=some (.lst svs)/\sl≠pl/\IsL K H' ((dn.flatMap (·.2)).map prD) svs/\dn.map (·.1)=[ls.take c,ls.drop c].take i/\∀ e∈dn,HalfW e.1 e.2/\e.2.length<=15)
  ⟨_,_,sl,[],[],[],rfl,fun b o hb q=>e49 _ _ (b04 b o hb q),hF9,SqT.of h9,h91,h92,e49 _ _ h24,e49 _ _ h34,h9p,⟨rfl,fun j v e h=>by cases h⟩,h9s,hpn h5,.nil,rfl,fun e he=>by cases he⟩ (fun i σ' H' hP=>?_) (fun i x σ' H10 hx hi hP=>?_) (fun σ' H10 hP=>?_)
 . obtain⟨_,_,_,_,_,_,_,_,_,h,_⟩:=hP
   exact h
 . obtain⟨x6,x7,sl,svs,pvs,dn,rfl,b10,hF10,hT10,h101,h102,h10n,h10l,h10p,hP10,h10s,hsp,hL10,hdn,hh10⟩:=hP
   obtain⟨ax,X,rfl,haxp,hX,hXn,hX5,hXi⟩:∃ ax X,x = .ref ax/\ax≠pl/\H10 ax=some (.lst (X.map V.str))/\X.Nodup/\X.length<=5/\[ls.take c,ls.drop c][i]? = some X:=by
    match i,hx with
    | 0,hx=>
      cases hx
      exact⟨a1,_,rfl,h1p,h101,hlsn.sublist (List.take_sublist _ _),by rw[List.length_take];omega,rfl⟩
    | 1,hx=>
      cases hx
      exact⟨a2,_,rfl,h2p,h102,hlsn.sublist (List.drop_sublist _ _),by rw[List.length_drop];omega,rfl⟩
   walk_at "rd"
   refine⟨f,l,ax,X,rfl,hF10,hX,by omega,fun p11 xs11 ps11 H11 hp11 e11 hF11 h11 hL11 hU hl11=>?_⟩
   have hF10':=hF10
   have lst:∀ {b:Addr} {xs:List V},H10 b=some (.lst xs)->H11 b=some (.lst xs):=fun {b xs} h=>e11 _ _ (hF10.lst h) h
   have fz11:=hF10.fz e11
   walk_at "rd"
   refine Gj (SqL.of h11) fun q12 H12 hq12 e12 h12=>?_
   rw[Ed (by decide)] at h12
   walk_at "rd"
   have hL12:=IsL.mono e12 _ _ (IsL.take 15 hL11)
   rw[<- List.map_take] at hL12
   refine Pd h12 hL12 fun pv H13 e13 hI13=>?_
   have hU13:Up X (ps11.take 15):=hU.sub fun z hz=>List.mem_of_mem_take hz
   have hl13:(ps11.take 15).length<=15:=by rw[List.length_take];omega
   generalize ps11.take 15=qs at hI13 hU13 hl13
   have hH:HalfW X qs:=⟨hXn,fun p hp=>hU13.mem hp,fun _=>hU13.irrefl hXn,by omega,by omega⟩
   have e1113:=e12.trans e13
   walk_at "rd"
   refine Bn (Ac (by simp)) fun t14 H14 ht14 e14 h14=>?_
   walk_at "rd"
   have e1114:=e1113.trans e14
   refine⟨.ref t14,X,qs,rfl,⟨t14,_,_,rfl,SqT.of h14,⟨ax,rfl,.inl (SqL.of (e1114 _ _ (lst hX)))⟩,Is.mono e14 _ _ hI13⟩,hH,by omega,fun oa ys15 H15 hoa e15 h15 hL15=>?_⟩
   walk_at "rd"
   refine Bn (Ac (by simp)) fun t16 H16 ht16 e16 h16=>?_
   walk_at "rd"
   have e1116:=(e1114.trans e15).trans e16
   have hdl:=congrArg List.length hdn
   rw[List.length_map,List.length_take] at hdl
   have hpl16:=e1116 _ _ (lst h10p)
   refine Qh hpl16 (by rw[hP10.1];simp at hdl;omega) fun H17 e17 h17=>?_
   have fz17:=e17.fzL hpl16
   have fz1017:=(fz11.trans e1116.fz).trans fz17
   have lst17:∀ b xs,b≠pl->H10 b=some (.lst xs)->H17 b=some (.lst xs):=fun b xs hb h=>e17 _ _ hb (e1116 _ _ (lst h))
   have hF17:Feed H17 f l:=by
    obtain⟨a',t',u',cs',q1,q2,q3,q4⟩:=hF11.same e1116
    exact⟨a',t',u',cs',e17 _ _ hplf.symm q1,e17 _ _ hl6 q2,q3,q4⟩
   have hpe:H11 pl≠none:=by rw[lst h10p];simp
   have hoap:oa≠pl:=fun z=>hpe (e1114.free (z ▸ hoa))
   have hP17:=(hP10.of fz1017 lst17).snoc (v:=.ref t16) (e:=(X,qs)) ⟨t16,ax,oa,ys15,rfl,fz17.seq (SqT.of h16),lst17 _ _ haxp hX,e17 _ _ hoap (e16 _ _ h15),IsL.fz (e16.fz.trans fz17) _ _ (Kv _) hL15,haxp,hoap⟩
   have hI17:Is K H17 (psD qs) pv:=hI13.ps_fz (((e14.trans e15).trans e16).fz.trans fz17)
   obtain⟨pa,pxs,rfl,hSp,hLp⟩:=Is.tup hI17
   have hpxl:=IsL.length hLp
   rw[List.length_map] at hpxl
   have h17s:=lst17 _ _ hsp h10s
   have hsvl:=IsL.length hL10
   rw[List.length_map] at hsvl
   have hfl:(dn.flatMap (·.2)).length<=30:=by
    rw[List.length_flatMap]
    have h15:=G2 (f:=fun e:List Str×List (Str×Str)=>e.2.length) (c:=15) (l:=dn) fun e he=>(hh10 e he).2
    have hd2:dn.length<=2:=by simp at hdl;omega
    omega
   walk_at "rd"
   refine Wc (.inr hSp) fun q18 H18 hq18 e18 h18=>?_
   walk_at "rd"
   refine Jg (e18 _ _ h17s) h18 (Ac (by omega)) fun sl' H19 hsl' e19 h19=>?_
   have e1719:=e18.trans e19
   walk_at "rd"
   refine⟨_,_,sl',_,_,dn++[(X,qs)],rfl,?_,hF17.same e1719,e1719.seqT (fz1017.seq hT10),e1719 _ _ (lst17 _ _ h1p h101),e1719 _ _ (lst17 _ _ h2p h102),e1719 _ _ (lst17 _ _ hnlp h10n),e1719 _ _ (lst17 _ _ hllp h10l),e1719 _ _ h17,hP17.of e1719.fz (fun b xs _ g=>e1719 _ _ g),h19,(ne_of_none (e18 _ _ h17) hsl').symm,?_,?_,?_⟩
   . exact fun b o hb q=>e1719 _ _ (e17 _ _ (ne_of_none q hplH) (e1116 _ _ (e11 _ _ hb (b10 _ _ hb q))))
   . rw[List.flatMap_append,List.map_append]
     refine IsL.mono e1719 _ _ (IsL.append (IsL.fz fz1017 _ _ (Bv _) hL10) ?_)
     simpa using hLp
   . rw[List.map_append,hdn,List.take_add_one,hXi]
     rfl
   intro e he
   rcases List.mem_append.mp he with he | he
   . exact hh10 e he
   rw[show e=(X,qs) by simpa using he]
   exact ⟨hH,hl13⟩
 obtain⟨x6,x7,sl,svs,pvs,dn,rfl,b10,hF10,hT10,h101,h102,h10n,h10l,h10p,hP10,h10s,hsp,hL10,hdn,hh10⟩:=hP
 obtain⟨pA,pB,rfl⟩:∃ pA pB,dn=[(ls.take c,pA),(ls.drop c,pB)]:=by
  match dn,hdn with
  | [(a,p),(b,q)],hdn=>
    have hdn:[a,b]=[ls.take c,ls.drop c]:=hdn
    cases hdn
    exact⟨p,q,rfl⟩
 obtain⟨va,vb,rfl⟩:∃ va vb,pvs=[va,vb]:=by
  have:=hP10.1
  match pvs,this with
  | [a,b],_=>exact⟨a,b,rfl⟩
 have hPA:=hP10.2 0 _ _ rfl rfl
 have hPB:=hP10.2 1 _ _ rfl rfl
 obtain⟨hHA,hlA⟩:=hh10 _ (List.mem_cons_self ..)
 obtain⟨hHB,hlB⟩:=hh10 _ (List.mem_cons_of_mem _ (List.mem_cons_self ..))
 replace hlA:pA.length<=15:=hlA
 replace hlB:pB.length<=15:=hlB
 rw[show [(ls.take c,pA),(ls.drop c,pB)].flatMap (·.2)=pA++pB by simp] at hL10
 have hAl:(ls.take c).length<=5:=by rw[List.length_take];omega
 have hBl:(ls.drop c).length<=5:=by rw[List.length_drop];omega
 have hTwo:∀ S,S.Perm (pA++pB++crs (ls.take c) (ls.drop c))->Two ns (ls.take c) (ls.drop c) pA pB S:=fun S hS=>⟨hN,by omega,by rw[List.take_append_drop];exact hpl,hHA,hHB,hAl,hBl,hlA,hlB,hS⟩
 clear hP10 hh10 hdn hT10 h101 h102
 walk_at "rd"
 refine Gj (SqL.of h10l) fun a3 H11 ha3 e11 h11=>?_
 rw[Ed (by omega),<- List.map_take] at h11
 refine G9 (SqL.of h11) ?_
 refine Ck (Av (xs:=(ls.take ((c:Nat):Int).toNat).map V.str)) (fun i σ H'=>∃ x8 sl svs,σ=[some (.ref f),some (.ref nl),some (.ref ll),some (.int ((c:Nat):Int)),some (.ref sl),some (.ref pl),x6,x7,x8]/\Same H11 H'/\H' sl=some (.lst svs)/\IsL K H' ((pA++pB++crs ((ls.take c).take i) (ls.drop c)).map prD) svs)
  ⟨_,sl,svs,rfl,.refl _,e11 _ _ h10s,by simpa[crs] using IsL.mono e11 _ _ hL10⟩ (fun i σ' H' hP=>?_) (fun i x σ' H12 hx hi hP=>?_) (fun σ' H12 hP=>?_)
 . obtain⟨_,_,_,_,h,_⟩:=hP
   exact h.seq (SqL.of h11)
 . obtain ⟨x8,sl2,svs2,rfl,e12,h12,hL12⟩:=hP
   rw[List.getElem?_map] at hx
   cases hz:(ls.take ((c:Nat):Int).toNat)[i]? with
   | none=>rw[hz] at hx;cases hx
   | some z=>
     rw[hz] at hx
     cases hx
     have hzA:(ls.take c)[i]? = some z:=hz
     have hsl:=IsL.length hL12
     have hcl:(crs ((ls.take c).take i) (ls.drop c)).length<=25:=by
      rw[Ph]
      exact Nat.le_trans (Nat.mul_le_mul (Nat.le_trans (List.length_take_le' _ _) hAl) hBl) (by decide)
     rw[List.length_map,List.length_append,List.length_append] at hsl
     have hll12:=(e11.trans e12) _ _ h10l
     walk_at "rd"
     refine Gj (SqL.of hll12) fun a4 H13 ha4 e13 h13=>?_
     rw[G0 (by omega) (by rw[List.length_map];omega),<- List.map_drop] at h13
     refine Ik (SqL.of h13) (fun _=>true) (fun y=>prD (z,y)) (fun _=>Hd _) (by show(ls.drop c).length<=_;omega) (fun j y H14 R R' hy e14 hR hR'=>?_) (fun q ys H14 hq14 e14 h14 hL14=>?_)
     . walk_at "rd"
       exact Bn (Ac (by simp)) fun t H15 ht e15 h15=>hR rfl _ _ e15 (Ny (SqT.of h15))
     rw[C4] at hL14
     have hyl:=IsL.length hL14
     rw[List.length_map] at hyl
     have hyl':ys.length<=5:=by rw[<- hyl];exact hBl
     walk_at "rd"
     refine Jg ((e13.trans e14) _ _ h12) h14 (Ac (by omega)) fun sl3 H15 hsl3 e15 h15=>?_
     have e1215:=(e13.trans e14).trans e15
     walk_at "rd"
     refine⟨_,sl3,_,rfl,e12.trans e1215,h15,?_⟩
     rw[show crs ((ls.take c).take (i+1)) (ls.drop c)=crs ((ls.take c).take i) (ls.drop c)++(ls.drop c).map fun y=>(z,y) by
      unfold crs
      rw[List.take_add_one,hzA,List.flatMap_append]
      simp,<- List.append_assoc,List.map_append,List.map_map]
     exact IsL.append (IsL.mono e1215 _ _ hL12) (IsL.mono e15 _ _ hL14)
 obtain⟨x8,sl2,svs2,rfl,e12,h12,hL12⟩:=hP
 rw[List.length_map,show(ls.take ((c:Nat):Int).toNat).length=(ls.take c).length from rfl,List.take_length] at hL12
 have e1012:=e11.trans e12
 have hF12:=hF10.same e1012
 have hsl:=IsL.length hL12
 rw[List.length_map] at hsl
 have hs60:=(hTwo _ (.refl _)).slen
 walk_at "rd"
 refine Ii (SqL.of (e1012 _ _ h10n)) fun t13 H13 ht13 e13 h13=>?_
 walk_at "rd"
 refine⟨f,l,sl2,svs2,rfl,hF12.same e13,.inl (SqL.of (e13 _ _ h12)),by omega,fun q14 ys14 H14 hq14 e14 hF14 h14 hp14=>?_⟩
 have fz14:=(hF12.same e13).fz e14
 obtain⟨S,hS,hLS⟩:=Sq hp14 (IsL.fz (e13.fz.trans fz14) _ _ (Bv _) hL12)
 walk_at "rd"
 refine Pd h14 hLS fun pv H15 e15 hI15=>?_
 walk_at "rd"
 refine Bn (Ac (by simp)) fun t16 H16 ht16 e16 h16=>?_
 walk_at "rd"
 refine Bn (Ac (by simp)) fun t17 H17 ht17 e17 h17=>?_
 have hF13:=hF12.same e13
 have e1013:=e1012.trans e13
 have e1417:=(e15.trans e16).trans e17
 refine k t17 (.ref t16) pl ns (ls.take c) (ls.drop c) pA pB S va vb H17 ?_ (hF14.same e1417) (SqT.of h17) ?_ hplH (e1417 _ _ (e14 _ _ hplf (e1013 _ _ h10p))) (((hPA.same e1013).draw hF13 e14).same e1417) (((hPB.same e1013).draw hF13 e14).same e1417) (hTwo S hS)
 . exact fun b o hb q=>e1417 _ _ (e14 _ _ hb (e1013 _ _ (b10 _ _ hb q)))
 exact aa4 (e17.seqT (SqT.of h16)) ((Mq (SqT.of h13)).nm_fz (fz14.trans e1417.fz)) (Is.mono (e16.trans e17) _ _ hI15)
def spLaw (P:Addr)(K:PySem.W.Frag):Sp:=fun vs H Q _=>∃(a:Addr) (ns:List Int),vs=[.ref a]/\SqL K H a (ns.map V.int)/\ns.length<=63/\LmT P H/\∀ H',Q (.bl true) H'
theorem Il {P f l:Addr}{H H':Hp}(h:LmT P H)(hF:Feed H f l)(e:ExtBut f H H'):LmT P H':=by
 obtain⟨_,_,_,_,h1,_⟩:=hF
 exact LamT.but h e h1 (fun _ z=>by cases z) (fun _ z=>by cases z)
theorem a75 {P f l:Addr}{H H':Hp}(hT:LmT P H)(hF:Feed H f l)(e:ExtBut P H H'):Feed H' f l:=by
 obtain⟨ps,ht⟩:=Iq hT
 obtain⟨a,t,u,cs,h1,h2,h3,h4⟩:=hF
 exact⟨a,t,u,cs,e _ _ (ne_of h1 ht (by intro z;cases z)) h1,e _ _ (ne_of h2 ht (by intro z;cases z)) h2,h3,h4⟩
theorem a73 {P b:Addr}{H H':Hp}{xs:List V}(hT:LmT P H)(e:ExtBut P H H')(h:H b=some (.lst xs)):H' b=some (.lst xs):=by
 obtain⟨ps,ht⟩:=Iq hT
 exact e _ _ (ne_of h ht (by intro z;cases z)) h
theorem ai7 {P:Addr}{H H':Hp}(hT:LmT P H)(e:ExtBut P H H'):Fz H H':=by
 obtain⟨ps,ht⟩:=Iq hT
 exact Vy e ht
theorem ae4 {f:Addr}{fd:FuncData}(F:Fun K "law" "law" Kn f fd)(T:Hc mg){P_best:Addr}(c__law_feed:Fnd P w K mg base 1 "_law_feed" ["_law_script"] (Fj K))(c__law_half:Fnd P w K mg base 4 "_law_half" ["_law_feed_here","_law_most"] (Fv K))(c__law_orders:Fnd P w K mg base 1 "_law_orders" ["_law_half_here"] (Da K))(c__law_questions:Fnd P w K mg base 2 "_law_questions" ["_law_names_here","_law_orders_here"] (Cl K))(c__law_two:Fnd P w K mg base 3 "_law_two" ["_law_feed_here"] (Gk K))(c__law_right:Fnd P w K mg base 17 "_law_right" ["_law_half_here","_law_due"] (Ey P_best K))(c__law_times:Fnd P w K mg base 1 "_law_times" ["_law_asked","_law_many"] (Fa K)):FnOk P w K mg base CX0 18 f fd ["_law_script"] (spLaw P_best K):=by
 refine F.ok Ge (fun vs H Q E h=>?_) (fun cdv A outer s H vs Q E hr h=>?_)
 . obtain⟨a,ns,rfl,_⟩:=h
   rfl
 obtain⟨a,cs,rfl,hS,h63,hT,k⟩:=h
 have hu:=Cm hr
 have hq:=Cu hr
 with_reducible refine⟨_,(A3 (Ab (i:=1) Ge.nd (by ac_nf) (by eq_refl) (As c__law_feed (hr.mono (by decide)) (by ac_nf) (A1 (pv 0) A2)))
  (A3 (Ab (i:=2) Ge.nd (by ac_nf) (by eq_refl) (Cd (A1 (As c__law_half (hr.mono (by decide)) (by ac_nf) (A1 (pv 1) (A1 A5 A2))) (A1 (As c__law_half (hr.mono (by decide)) (by ac_nf) (A1 (pv 1) (A1 A5 A2))) (A1 (As c__law_half (hr.mono (by decide)) (by ac_nf) (A1 (pv 1) (A1 A5 A2))) A2)))))
  (A3 (Bs PassesOwn.never (by ac_nf) (Ak (K:=K) hu (Ag (Ad (K:=K)) (pv 2) (Ay (Le (K:=K)) (pv 2) C3 (B4 A5)))) (A8 (i:=3) Ge.nd (by ac_nf) (by eq_refl))
  (A7 (G8 (Y9 (Yt (As c__law_right (hr.mono (by decide)) (by ac_nf) (A1 (pv 3) (A1 (As c__law_questions (hr.mono (by decide)) (by ac_nf) (A1 (Ah (A6 (K:=K) hu) (pv 3) A5 (by ac_rfl)) (A1 (As c__law_orders (hr.mono (by decide)) (by ac_nf) (A1 (pv 3) A2)) A2))) A2))))) (A7 (B6 af9)) By)))
  (A3 (Yl (As c__law_two (hr.mono (by decide)) (by ac_nf) (A1 (pv 1) A2)) (J5 (K:=K) (n:=2) (by ac_nf) (Db (A8 (i:=3) Ge.nd (by ac_nf) (by eq_refl)) (Db (A8 (i:=4) Ge.nd (by ac_nf) (by with_unfolding_all exact Or.inr rfl)) J9))))
  (A3 (Ab (i:=5) Ge.nd (by ac_nf) (by eq_refl) (Cd A2))
  (A3 (Bs PassesOwn.never (by ac_nf) (Bz (by ac_nf) T.b_range (A1 A5 A2)) (A8 (i:=6) Ge.nd (by ac_nf) (by with_unfolding_all exact Or.inr rfl))
  (A3 (Dr (i:=7) ["_law_name"] ["_law_parts_here","_law_j"] [4,6] (by ac_nf) (by ac_nf) (by ac_nf) Ge.nd (by ac_nf) (by ac_nf) (Ak (K:=K) hu (Ah (A6 (K:=K) hu) (pv 3) A5 (by ac_rfl))) (fun _ _ _ _=>(A8 (i:=0) (by with_unfolding_all (show(["_law_name","_law_parts_here","_law_j"]:List Str).Nodup;decide +kernel)) (by ac_nf) (by eq_refl))) (B7 (by decide)) (fun _ _ _ _=>(Di (Ar (Nn (K:=K) hq) (pv 0) (Ah (A6 (K:=K) hu) (Ah (A6 (K:=K) hu) (pv 1) (pv 2) (by ac_rfl)) A5 (by ac_rfl)) (by ac_nf)))) (fun _ _ _ _=>(pv 0)))
  (A7 (Ab (i:=5) Ge.nd (by ac_nf) (by eq_refl) (Ag (Ad (K:=K)) (pv 5) (As c__law_times (hr.mono (by decide)) (by ac_nf) (A1 (As c__law_questions (hr.mono (by decide)) (by ac_nf) (A1 (pv 7) (A1 (Ah (A6 (K:=K) hu) (Ah (A6 (K:=K) hu) (pv 4) (pv 6) (by ac_rfl)) A5 (by ac_rfl)) A2))) (A1 (An (Bk (K:=K)) (by ac_nf) T.b_len PyProof.Rows.Boot.«len» (A1 (Ah (A6 (K:=K) hu) (Ah (A6 (K:=K) hu) (pv 4) (Ag Gp A5 (pv 6)) (by ac_rfl)) A5 (by ac_rfl)) A2)) A2))))))))
  (A7 (B6 (Yv (As c__law_right (hr.mono (by decide)) (by ac_nf) (A1 (pv 3) (A1 (pv 5) A2))) (Xs (As c__law_right (hr.mono (by decide)) (by ac_nf) (A1 (pv 3) (A1 (pv 5) A2))))))))))))),?_⟩
 walk_at "rd"
 refine⟨a,cs,rfl,hS,h63,fun f l H1 hf hl e1 hF=>?_⟩
 have hT1:=hT.same e1
 walk_at "rd"
 refine⟨f,l,_,rfl,hF,by omega,by omega,fun v0 ns0 ps0 H2 e2 hF2 hI0 hH0 hl0=>?_⟩
 have hT2:=Il hT1 hF e2
 walk_at "rd"
 refine⟨f,l,_,rfl,hF2,by omega,by omega,fun v1 ns1 ps1 H3 e3 hF3 hI1 hH1 hl1=>?_⟩
 have hT3:=Il hT2 hF2 e3
 walk_at "rd"
 refine⟨f,l,_,rfl,hF3,by omega,by omega,fun v2 ns2 ps2 H4 e4 hF4 hI2 hH2 hl2=>?_⟩
 have hT4:=Il hT3 hF3 e4
 walk_at "rd"
 refine Cb (Ac (by simp)) fun hl5 H5 hh5 e5 h5=>?_
 walk_at "rd"
 refine Gj (SqL.of h5) fun hl6 H6 hh6 e6 h6=>?_
 rw[Ed (by decide)] at h6
 replace h6:H6 hl6=some (.lst [v0]):=h6
 walk_at "rd"
 refine Jg (e6 _ _ h5) h6 (Ac (by simp)) fun ql H7 hq7 e7 h7=>?_
 have e47:=(e5.trans e6).trans e7
 have hF7:=hF4.same e47
 have hT7:=hT4.same e47
 have fz34:=hF3.fz e4
 have fz23:=hF2.fz e3
 have hI0':=hI0.hf_fz ((fz23.trans fz34).trans e47.fz)
 have hI1':=hI1.hf_fz (fz34.trans e47.fz)
 have hI2':=hI2.hf_fz e47.fz
 have key:∀(i:Nat) v,([v0,v1,v2]++[v0])[i]? = some v->∃ e:List Str×List (Str×Str),Is K H7 (hfD e.1 e.2) v/\Half e.1 e.2/\e.1.length<=6:=fun i v hv=>by
  match i,hv with
  | 0,hv=>cases hv;exact⟨(ns0,ps0),hI0',hH0,by show ns0.length<=6;omega⟩
  | 1,hv=>cases hv;exact⟨(ns1,ps1),hI1',hH1,by show ns1.length<=6;omega⟩
  | 2,hv=>cases hv;exact⟨(ns2,ps2),hI2',hH2,by show ns2.length<=6;omega⟩
  | 3,hv=>cases hv;exact⟨(ns0,ps0),hI0',hH0,by show ns0.length<=6;omega⟩
  | n+4,hv=>cases hv
 clear hI0 hI1 hI2 hI0' hI1' hI2' hH0 hH1 hH2 hl0 hl1 hl2 e2 e3 e4 hF2 hF3 hF4 hT1 hT2 hT3 hT4
 walk_at "rd"
 refine G9 (SqL.of h7) ?_
 refine Ck (Av (xs:=[v0,v1,v2]++[v0])) (fun i σ H'=>∃ x3,σ=[some (.ref a),some (.ref f),some (.ref hl5),x3,none,none,none,none]/\Feed H' f l/\Fz H7 H'/\H' ql=some (.lst ([v0,v1,v2]++[v0]))/\LmT P_best H')
  ⟨_,rfl,hF7,.refl _,h7,hT7⟩ (fun i σ' H' hP=>?_) (fun i x σ' H8 hx hi hP=>?_) (fun σ' H8 hP=>?_)
 . obtain⟨_,_,_,_,h,_⟩:=hP
   exact SqL.of h
 . obtain⟨x3,rfl,hF8,fz8,h8,hT8⟩:=hP
   obtain⟨e,hIe,hH,hle⟩:=key i x hx
   have hIe8:=hIe.hf_fz fz8
   have hW:=hH.w
   walk_at "rd"
   refine Ga hIe8 fun nv hN=>?_
   walk_at "rd"
   refine⟨x,e.1,e.2,rfl,.of hIe8,hW,hle,fun ol oys H9 hol e9 h9 hL9=>?_⟩
   walk_at "rd"
   refine⟨nv,ol,e.1,ext (Ae e.2) e.1.length e.1,oys,rfl,(NmS.of hN).same e9,SqL.of h9,hL9,fun r hr x hx=>?_,by omega,?_,fun q zs H10 hq10 e10 h10 hL10=>?_⟩
   . exact((Ea _ _ _ _ hW.nd rfl).mp hr).1.mem_iff.mpr hx
   . exact Nat.le_trans (Qm (Ae e.2) e.1.length e.1 rfl hW.nd) (Nat.le_trans (Qp hle) (by decide))
   rw[show quK e.1 (Ep (ext (Ae e.2) e.1.length e.1)) e.1.length=quP e.1 e.2 from W1 hW,Ud] at hL10
   have e810:=e9.trans e10
   have hT10:=hT8.same e810
   walk_at "rd"
   refine⟨x,q,e.1,e.2,unP e.1 e.2,zs,rfl,hIe8.hf_fz e810.fz,hW,hH.names.2,by omega,h10,.refl _,hL10,hT10,fun H11 e11 hT11=>?_⟩
   walk_at "rd"
   exact⟨_,rfl,a75 hT10 (hF8.same e810) e11,fz8.trans (e810.fz.trans (ai7 hT10 e11)),a73 hT10 e11 (e810 _ _ h8),hT11⟩
 obtain⟨x3,rfl,hF8,fz8,h8,hT8⟩:=hP
 walk_at "rd"
 refine⟨f,l,rfl,hF8,fun t hv pl ns A' B pA pB S va vb H9 e9 hF9 ht hIS hpl0 hpl hPA hPB hTw=>?_⟩
 have hT9:=Il hT8 hF8 e9
 refine Py ht ?_
 walk_at "rd"
 refine Cb (by decide) fun du H10 hdu e10 h10=>?_
 have hT10:=hT9.same e10
 have hnsl:=hTw.le
 have hW:=hTw.half
 have hgrow:∃ D:Nat->List (Str×Str),D 0=[]/\D 2=pPt ns A' pA++pPt ns B pB/\∀ i:Nat,i<2->∃ v v' X pX Y pY,atI [va,vb] (i:Int)=some v/\atI [va,vb] (1-(i:Int))=some v'/\PartAt K H9 pl v X pX/\PartAt K H9 pl v' Y pY/\HalfW X pX/\X.length<=5/\Y.length<=5/\Y.Nodup/\D (i+1)=D i++pPt ns X pX/\∀ p∈pPt ns X pX,Ep (ext (Ae pX) X.length X) p.1 p.2*cnt (Ae pY) Y=qA ns S p/\Ep (ext (Ae pX) X.length X) p.2 p.1*cnt (Ae pY) Y=qB ns S p:=by
  have cA:∀ p∈pPt ns A' pA,Ep (ext (Ae pA) A'.length A') p.1 p.2*cnt (Ae pB) B=qA ns S p/\Ep (ext (Ae pA) A'.length A') p.2 p.1*cnt (Ae pB) B=qB ns S p:=fun p hp=>by
   obtain⟨_,h1,h2,_⟩:=mem_pPt.mp hp
   unfold qA qB
   rw[<- hTw.cnt (.inl ⟨h1,h2⟩),<- hTw.cnt (.inl ⟨h2,h1⟩)]
   unfold twN
   rw[if_pos ⟨h1,h2⟩,if_pos ⟨h2,h1⟩]
   exact⟨rfl,rfl⟩
  have cB:∀ p∈pPt ns B pB,Ep (ext (Ae pB) B.length B) p.1 p.2*cnt (Ae pA) A'=qA ns S p/\Ep (ext (Ae pB) B.length B) p.2 p.1*cnt (Ae pA) A'=qB ns S p:=fun p hp=>by
   obtain⟨_,h1,h2,_⟩:=mem_pPt.mp hp
   unfold qA qB
   rw[<- hTw.cnt (.inr ⟨h1,h2⟩),<- hTw.cnt (.inr ⟨h2,h1⟩)]
   unfold twN
   rw[if_neg (fun q=>hTw.dj _ q.1 h1),if_pos ⟨h1,h2⟩,if_neg (fun q=>hTw.dj _ q.1 h2),if_pos ⟨h2,h1⟩]
   exact⟨rfl,rfl⟩
  refine⟨fun i=>if i=0 then [] else if i=1 then pPt ns A' pA else pPt ns A' pA++pPt ns B pB,rfl,rfl,fun i hi=>?_⟩
  match i,hi with
  | 0,_=>exact⟨va,vb,A',pA,B,pB,Bj (j:=0) rfl,Bj (j:=1) rfl,hPA,hPB,hTw.hA,hTw.lA,hTw.lB,hTw.hB.nd,rfl,cA⟩
  | 1,_=>exact⟨vb,va,B,pB,A',pA,Bj (j:=1) rfl,Bj (j:=0) rfl,hPB,hPA,hTw.hB,hTw.lB,hTw.lA,hTw.hA.nd,rfl,cB⟩
 obtain⟨D,hD0,hD2,hD⟩:=hgrow
 walk_at "rd"
 refine Gc (by decide) ?_
 refine Ck Bf (fun i σ H'=>∃ d x6 x7 ys,σ=[some (.ref a),some (.ref f),some (.ref hl5),some hv,some (.ref pl),some (.ref d),x6,x7]/\Same H9 H'/\H' d=some (.lst ys)/\IsL K H' ((D i).map fun p=>qsD p (qA ns S p) (qB ns S p)) ys)
  ⟨du,_,_,[],rfl,e10,h10,by rw[hD0];exact .nil⟩ (fun _ _ _ _=>trivial) (fun i x σ H11 hx hi hP=>?_) (fun σ H11 hP=>?_)
 . obtain⟨d,x6,x7,ys,rfl,e11,h11,hL11⟩:=hP
   obtain⟨rfl,hin⟩:=Dy hx
   have hi2:i<2:=by simpa using hi
   obtain⟨v,v',X,pX,Y,pY,a1,a2,hP1,hP2,hWX,hXl,hYl,hYn,hDs,hcn⟩:=hD i hi2
   obtain⟨t1,sa,oa,oys,rfl,g1,g2,g3,g4,g5,g6⟩:=hP1.same e11
   obtain⟨t2,sa',oa',oys',rfl,k1,k2,k3,k4,k5,k6⟩:=hP2.same e11
   have hpl11:=e11 _ _ hpl
   have hol:=IsL.length k4
   rw[List.length_map] at hol
   have hcY:cnt (Ae pY) Y<=3628800:=Ky hYn (by omega)
   walk_at "rd"
   refine Ga (hIS.hf_fz e11.fz) fun nv hN=>?_
   refine L9 hN (fun z=>decide (z∈X)) PyData.str (fun _=>rfl) (by omega) (fun jj z H12 R R' hz e12 hR hR'=>?_) (fun so sys H12 hso e12 h12 hL12=>?_)
   . walk_at "rd"
     refine Ib (e12 _ _ hpl11) (by rw[Int.zero_add];exact a1) ?_
     walk_at "rd"
     refine J7 (e12.seqT g1) (Bj (j:=0) rfl) ?_
     walk_at "rd"
     refine Ur (SqL.of (e12 _ _ g2)) ?_
     walk_at "rd"
     refine Nt (fun hb=>?_) (fun hb=>?_)
     . walk_at "rd"
       exact hR (decide_eq_true hb) _ _ (.refl _) Jm
     exact hR' (decide_eq_false hb) _ (.refl _)
   have hsy:=IsL.str_eq hL12
   subst hsy
   have hsl:(ns.filter fun z=>decide (z∈X)).length<=10:=Nat.le_trans (List.length_filter_le _ _) hnsl
   walk_at "rd"
   refine Ib (e12 _ _ hpl11) (by rw[Int.zero_add];exact a1) ?_
   walk_at "rd"
   refine J7 (e12.seqT g1) (Bj (j:=1) rfl) ?_
   walk_at "rd"
   refine⟨.ref so,oa,ns.filter fun z=>decide (z∈X),ext (Ae pX) X.length X,oys,rfl,⟨so,rfl,.inl (SqL.of h12)⟩,SqL.of (e12 _ _ g3),IsL.mono e12 _ _ g4,fun r hr x hx=>?_,hsl,?_,fun q zs H13 hq13 e13 h13 hL13=>?_⟩
   . exact((Ea _ _ _ _ hWX.nd rfl).mp hr).1.mem_iff.mpr (of_decide_eq_true (List.mem_filter.mp hx).2)
   . exact Nat.le_trans (Qm (Ae pX) X.length X rfl hWX.nd) (Nat.le_trans (Qp hXl) (by decide))
   rw[Y0] at hL13
   have hzl:=IsL.length hL13
   rw[List.length_map] at hzl
   have hql:(pPt ns X pX).length<=1000:=by
    have hk:=Nz (ns.filter fun z=>decide (z∈X)) (Ep (ext (Ae pX) X.length X)) (ns.filter fun z=>decide (z∈X)).length
    rw[Y0,List.length_map] at hk
    exact Nat.le_trans hk (Nat.le_trans (Nat.mul_le_mul hsl hsl) (by decide))
   have e1113:=e12.trans e13
   walk_at "rd"
   refine Ib (e1113 _ _ hpl11) (by rw[Int.zero_add];exact a2) ?_
   walk_at "rd"
   refine J7 (e1113.seqT k1) (Bj (j:=1) rfl) ?_
   walk_at "rd"
   first | refine i_lenL (e1113 _ _ k3) ?_ | skip
   rw[show oys'.length=cnt (Ae pY) Y from hol.symm]
   walk_at "rd"
   refine⟨q,(pPt ns X pX).map fun p=>(p,Ep (ext (Ae pX) X.length X) p.1 p.2,Ep (ext (Ae pX) X.length X) p.2 p.1),zs,cnt (Ae pY) Y,rfl,h13,by rw[List.map_map];exact hL13,by rw[List.length_map];exact hql,hcY,fun l' ys' H14 hl' e14 h14 hL14=>?_⟩
   have hL14':IsL K H14 ((pPt ns X pX).map fun p=>qsD p (qA ns S p) (qB ns S p)) ys':=by
    rw[List.map_map] at hL14
    rw[show((pPt ns X pX).map fun p=>qsD p (qA ns S p) (qB ns S p))=(pPt ns X pX).map ((fun q:(Str×Str)×Nat×Nat=>qsD q.1 (q.2.1*cnt (Ae pY) Y) (q.2.2*cnt (Ae pY) Y))∘fun p=>(p,Ep (ext (Ae pX) X.length X) p.1 p.2,Ep (ext (Ae pX) X.length X) p.2 p.1)) from List.map_congr_left fun p hp=>by
     obtain⟨c1,c2⟩:=hcn p hp
     show qsD p _ _=qsD p _ _
     rw[<- c1,<- c2]]
    exact hL14
   have hyl':=IsL.length hL14'
   rw[List.length_map] at hyl'
   have hyl:=IsL.length hL11
   rw[List.length_map] at hyl
   have hDl:(D i).length<=2000:=by
    have:=hTw.perm.length_eq
    rw[<- hD2] at this
    have hu:=Oj (ps:=S) hnsl
    have hle:(D i).length<=(D 2).length:=by
     rcases(by omega:i=0\/i=1) with z | z
     . rw[z,hD0];simp
     subst z
     rw[hDs,List.length_append]
     omega
    omega
   have e1114:=e1113.trans e14
   walk_at "rd"
   refine Jg (e1114 _ _ h11) h14 (Ac (by omega)) fun d2 H15 hd2 e15 h15=>?_
   walk_at "rd"
   refine⟨d2,_,_,_,rfl,(e11.trans e1114).trans e15,h15,?_⟩
   rw[hDs,List.map_append]
   exact IsL.append (IsL.mono (e1114.trans e15) _ _ hL11) (IsL.mono e15 _ _ hL14')
 obtain⟨d,x6,x7,ys,rfl,e11,h11,hL11⟩:=hP
 replace hL11:IsL K H11 ((D 2).map fun p=>qsD p (qA ns S p) (qB ns S p)) ys:=hL11
 rw[hD2] at hL11
 have hT11:=hT9.same e11
 walk_at "rd"
 refine⟨hv,d,ns,S,_,ys,rfl,hIS.hf_fz e11.fz,hW,hTw.nm.2,hnsl,h11,hTw.perm,hL11,hT11,fun H12 e12 hT12=>?_⟩
 walk_at "rd"
 refine⟨hv,d,ns,S,_,ys,rfl,hIS.hf_fz (e11.fz.trans (ai7 hT11 e12)),hW,hTw.nm.2,hnsl,a73 hT11 e12 h11,hTw.perm,IsL.fz (ai7 hT11 e12) _ _ (Dn _ (fun _=>J2 ..) _) hL11,hT12,fun H13 e13 hT13=>?_⟩
 exact k _
end
theorem all_mk {l:PySem.W.OpenLaw}{w:World}{K:PySem.W.Frag}{h:Heap}{mg:Str->Option Value}{fa f0 f1 f2 f3 f4 f5 f6 f7 f8 f9 f10 f11 f12 f13 f14 f15 f16 f17 f18 f19 f20 f21 f22 f23 f24 f25 f26 C_Ways P_best c_bst:Addr}(X:K.In h)(G:h.Ns mainGlobals mg)(hfa:mg "law" = some (.ref fa))
  {D0 N0 D1 N1 D2 N2 D3 N3 D4 N4 D5 N5 D6 N6 D7 N7 D8 N8 D9 N9 D10 N10 D11 N11 D12 N12 D13 N13 D14 N14 D15 N15 D16 N16 D17 N17 D18 N18 D19 N19 D20 N20 D21 N21 D22 N22 D23 N23 D24 N24 D25 N25 D26 N26:Option Addr} {S0 S1 S2 S3 S4 S5 S6 S7 S8 S9 S10 S11 S12 S13 S14 S15 S16 S17 S18 S19 S20 S21 S22 S23 S24 S25 S26:Array (Option Value)} {O0 V0 E0 P0 Q0 U0 O1 V1 E1 P1 Q1 U1 O2 V2 E2 P2 Q2 U2 O3 V3 E3 P3 Q3 U3 O4 V4 E4 P4 Q4 U4 O5 V5 E5 P5 Q5 U5 O6 V6 E6 P6 Q6 U6 O7 V7 E7 P7 Q7 U7 O8 V8 E8 P8 Q8 U8 O9 V9 E9 P9 Q9 U9 O10 V10 E10 P10 Q10 U10 O11 V11 E11 P11 Q11 U11 O12 V12 E12 P12 Q12 U12 O13 V13 E13 P13 Q13 U13 O14 V14 E14 P14 Q14 U14 O15 V15 E15 P15 Q15 U15 O16 V16 E16 P16 Q16 U16 O17 V17 E17 P17 Q17 U17 O18 V18 E18 P18 Q18 U18 O19 V19 E19 P19 Q19 U19 O20 V20 E20 P20 Q20 U20 O21 V21 E21 P21 Q21 U21 O22 V22 E22 P22 Q22 U22 O23 V23 E23 P23 Q23 U23 O24 V24 E24 P24 Q24 U24 O25 V25 E25 P25 Q25 U25 O26 V26 E26 P26 Q26 U26:Value}
  (aC_Ways:PySem.W.nsIn K mainGlobals "Ways" = some (some (.ref C_Ways))) (pg_Ways:PySem.W.plainGet K C_Ways Str.empty=true) (hd_Ways:PySem.W.hasDictIn K C_Ways=true) (po_Ways:PySem.W.plainOver K C_Ways=true) (sa_Ways:PySem.W.findIn K (.ref C_Ways) "__setattr__" = some (some (.builtin "object.__setattr__"))) (mk_Ways:PySem.W.makesIn K C_Ways=true) (kc_Ways:PySem.W.keepIn K (.ref C_Ways)=true)
  (n_Ways_names:PySem.W.findIn K (.ref C_Ways) "names" = some none)
  (n_Ways_bits:PySem.W.findIn K (.ref C_Ways) "bits" = some none)
  (n_Ways_ahead:PySem.W.findIn K (.ref C_Ways) "ahead" = some none)
  (n_Ways_full:PySem.W.findIn K (.ref C_Ways) "full" = some none)
  (n_Ways_known:PySem.W.findIn K (.ref C_Ways) "known" = some none)
  (a0:PySem.W.nsIn K mainGlobals "behind_each" = some (some (.ref f0))) (l0:K.lookup f0=some ⟨O0,D0,.func (PySem.W.fnOf "behind_each" "behind_each" (Ai Bw) (Af Bw) (A4 Bw) .none V0 E0 P0 N0 Q0 U0),S0⟩) (c0:PySem.W.codeIn K Q0 "behind_each" = true) (k0:PySem.W.keepIn K (.ref f0)=true)
  (a1:PySem.W.nsIn K mainGlobals "are_untold" = some (some (.ref f1))) (l1:K.lookup f1=some ⟨O1,D1,.func (PySem.W.fnOf "are_untold" "are_untold" (Ai Ce) (Af Ce) (A4 Ce) .none V1 E1 P1 N1 Q1 U1),S1⟩) (c1:PySem.W.codeIn K Q1 "are_untold" = true) (k1:PySem.W.keepIn K (.ref f1)=true)
  (a2:PySem.W.nsIn K mainGlobals "untold_of" = some (some (.ref f2))) (l2:K.lookup f2=some ⟨O2,D2,.func (PySem.W.fnOf "untold_of" "untold_of" (Ai Cr) (Af Cr) (A4 Cr) .none V2 E2 P2 N2 Q2 U2),S2⟩) (c2:PySem.W.codeIn K Q2 "untold_of" = true) (k2:PySem.W.keepIn K (.ref f2)=true)
  (a3:PySem.W.nsIn K mainGlobals "untold" = some (some (.ref f3))) (l3:K.lookup f3=some ⟨O3,D3,.func (PySem.W.fnOf "untold" "untold" (Ai Fy) (Af Fy) (A4 Fy) .none V3 E3 P3 N3 Q3 U3),S3⟩) (c3:PySem.W.codeIn K Q3 "untold" = true) (k3:PySem.W.keepIn K (.ref f3)=true)
  (a4:PySem.W.nsIn K mainGlobals "bits_of" = some (some (.ref f4))) (l4:K.lookup f4=some ⟨O4,D4,.func (PySem.W.fnOf "bits_of" "bits_of" (Ai El) (Af El) (A4 El) .none V4 E4 P4 N4 Q4 U4),S4⟩) (c4:PySem.W.codeIn K Q4 "bits_of" = true) (k4:PySem.W.keepIn K (.ref f4)=true)
  (a5:PySem.W.nsIn K mainGlobals "bits_ahead" = some (some (.ref f5))) (l5:K.lookup f5=some ⟨O5,D5,.func (PySem.W.fnOf "bits_ahead" "bits_ahead" (Ai Ca) (Af Ca) (A4 Ca) .none V5 E5 P5 N5 Q5 U5),S5⟩) (c5:PySem.W.codeIn K Q5 "bits_ahead" = true) (k5:PySem.W.keepIn K (.ref f5)=true)
  (a6:PySem.W.nsIn K mainGlobals "comings_of" = some (some (.ref f6))) (l6:K.lookup f6=some ⟨O6,D6,.func (PySem.W.fnOf "comings_of" "comings_of" (Ai C7) (Af C7) (A4 C7) .none V6 E6 P6 N6 Q6 U6),S6⟩) (c6:PySem.W.codeIn K Q6 "comings_of" = true) (k6:PySem.W.keepIn K (.ref f6)=true)
  (a7:PySem.W.nsIn K mainGlobals "shares_of" = some (some (.ref f7))) (l7:K.lookup f7=some ⟨O7,D7,.func (PySem.W.fnOf "shares_of" "shares_of" (Ai Cq) (Af Cq) (A4 Cq) .none V7 E7 P7 N7 Q7 U7),S7⟩) (c7:PySem.W.codeIn K Q7 "shares_of" = true) (k7:PySem.W.keepIn K (.ref f7)=true)
  (a8:PySem.W.nsIn K mainGlobals "questions" = some (some (.ref f8))) (l8:K.lookup f8=some ⟨O8,D8,.func (PySem.W.fnOf "questions" "questions" (Ai Cn) (Af Cn) (A4 Cn) .none V8 E8 P8 N8 Q8 U8),S8⟩) (c8:PySem.W.codeIn K Q8 "questions" = true) (k8:PySem.W.keepIn K (.ref f8)=true)
  (a9:PySem.W.nsIn K mainGlobals "best" = some (some (.ref f9))) (l9:K.lookup f9=some ⟨O9,D9,.func (PySem.W.fnOf "best" "best" (Ai Kb) (Af Kb) (A4 Kb) .none V9 E9 P9 N9 Q9 U9),S9⟩) (c9:PySem.W.codeIn K Q9 "best" = true) (k9:PySem.W.keepIn K (.ref f9)=true)
  (a10:PySem.W.nsIn K mainGlobals "_law_feed" = some (some (.ref f10))) (l10:K.lookup f10=some ⟨O10,D10,.func (PySem.W.fnOf "_law_feed" "_law_feed" (Ai Co) (Af Co) (A4 Co) .none V10 E10 P10 N10 Q10 U10),S10⟩) (c10:PySem.W.codeIn K Q10 "_law_feed" = true) (k10:PySem.W.keepIn K (.ref f10)=true)
  (a11:PySem.W.nsIn K mainGlobals "_law_draw" = some (some (.ref f11))) (l11:K.lookup f11=some ⟨O11,D11,.func (PySem.W.fnOf "_law_draw" "_law_draw" (Ai Cv) (Af Cv) (A4 Cv) .none V11 E11 P11 N11 Q11 U11),S11⟩) (c11:PySem.W.codeIn K Q11 "_law_draw" = true) (k11:PySem.W.keepIn K (.ref f11)=true)
  (a12:PySem.W.nsIn K mainGlobals "_law_names" = some (some (.ref f12))) (l12:K.lookup f12=some ⟨O12,D12,.func (PySem.W.fnOf "_law_names" "_law_names" (Ai Cf) (Af Cf) (A4 Cf) .none V12 E12 P12 N12 Q12 U12),S12⟩) (c12:PySem.W.codeIn K Q12 "_law_names" = true) (k12:PySem.W.keepIn K (.ref f12)=true)
  (a13:PySem.W.nsIn K mainGlobals "_law_shuffled" = some (some (.ref f13))) (l13:K.lookup f13=some ⟨O13,D13,.func (PySem.W.fnOf "_law_shuffled" "_law_shuffled" (Ai Bg) (Af Bg) (A4 Bg) .none V13 E13 P13 N13 Q13 U13),S13⟩) (c13:PySem.W.codeIn K Q13 "_law_shuffled" = true) (k13:PySem.W.keepIn K (.ref f13)=true)
  (a14:PySem.W.nsIn K mainGlobals "_law_pairs" = some (some (.ref f14))) (l14:K.lookup f14=some ⟨O14,D14,.func (PySem.W.fnOf "_law_pairs" "_law_pairs" (Ai Cc) (Af Cc) (A4 Cc) .none V14 E14 P14 N14 Q14 U14),S14⟩) (c14:PySem.W.codeIn K Q14 "_law_pairs" = true) (k14:PySem.W.keepIn K (.ref f14)=true)
  (a15:PySem.W.nsIn K mainGlobals "_law_sayings" = some (some (.ref f15))) (l15:K.lookup f15=some ⟨O15,D15,.func (PySem.W.fnOf "_law_sayings" "_law_sayings" (Ai Bq) (Af Bq) (A4 Bq) .none V15 E15 P15 N15 Q15 U15),S15⟩) (c15:PySem.W.codeIn K Q15 "_law_sayings" = true) (k15:PySem.W.keepIn K (.ref f15)=true)
  (a16:PySem.W.nsIn K mainGlobals "_law_half" = some (some (.ref f16))) (l16:K.lookup f16=some ⟨O16,D16,.func (PySem.W.fnOf "_law_half" "_law_half" (Ai Cp) (Af Cp) (A4 Cp) .none V16 E16 P16 N16 Q16 U16),S16⟩) (c16:PySem.W.codeIn K Q16 "_law_half" = true) (k16:PySem.W.keepIn K (.ref f16)=true)
  (a17:PySem.W.nsIn K mainGlobals "_law_orders" = some (some (.ref f17))) (l17:K.lookup f17=some ⟨O17,D17,.func (PySem.W.fnOf "_law_orders" "_law_orders" (Ai Bu) (Af Bu) (A4 Bu) .none V17 E17 P17 N17 Q17 U17),S17⟩) (c17:PySem.W.codeIn K Q17 "_law_orders" = true) (k17:PySem.W.keepIn K (.ref f17)=true)
  (a18:PySem.W.nsIn K mainGlobals "_law_parts" = some (some (.ref f18))) (l18:K.lookup f18=some ⟨O18,D18,.func (PySem.W.fnOf "_law_parts" "_law_parts" (Ai C8) (Af C8) (A4 C8) .none V18 E18 P18 N18 Q18 U18),S18⟩) (c18:PySem.W.codeIn K Q18 "_law_parts" = true) (k18:PySem.W.keepIn K (.ref f18)=true)
  (a19:PySem.W.nsIn K mainGlobals "_law_questions" = some (some (.ref f19))) (l19:K.lookup f19=some ⟨O19,D19,.func (PySem.W.fnOf "_law_questions" "_law_questions" (Ai B8) (Af B8) (A4 B8) .none V19 E19 P19 N19 Q19 U19),S19⟩) (c19:PySem.W.codeIn K Q19 "_law_questions" = true) (k19:PySem.W.keepIn K (.ref f19)=true)
  (a20:PySem.W.nsIn K mainGlobals "_law_two" = some (some (.ref f20))) (l20:K.lookup f20=some ⟨O20,D20,.func (PySem.W.fnOf "_law_two" "_law_two" (Ai Ds) (Af Ds) (A4 Ds) .none V20 E20 P20 N20 Q20 U20),S20⟩) (c20:PySem.W.codeIn K Q20 "_law_two" = true) (k20:PySem.W.keepIn K (.ref f20)=true)
  (a21:PySem.W.nsIn K mainGlobals "_law_right" = some (some (.ref f21))) (l21:K.lookup f21=some ⟨O21,D21,.func (PySem.W.fnOf "_law_right" "_law_right" (Ai C5) (Af C5) (A4 C5) .none V21 E21 P21 N21 Q21 U21),S21⟩) (c21:PySem.W.codeIn K Q21 "_law_right" = true) (k21:PySem.W.keepIn K (.ref f21)=true)
  (a22:PySem.W.nsIn K mainGlobals "_law_times" = some (some (.ref f22))) (l22:K.lookup f22=some ⟨O22,D22,.func (PySem.W.fnOf "_law_times" "_law_times" (Ai C6) (Af C6) (A4 C6) .none V22 E22 P22 N22 Q22 U22),S22⟩) (c22:PySem.W.codeIn K Q22 "_law_times" = true) (k22:PySem.W.keepIn K (.ref f22)=true)
  (a23:PySem.W.nsIn K mainGlobals "law" = some (some (.ref f23))) (l23:K.lookup f23=some ⟨O23,D23,.func (PySem.W.fnOf "law" "law" (Ai Kn) (Af Kn) (A4 Kn) .none V23 E23 P23 N23 Q23 U23),S23⟩) (c23:PySem.W.codeIn K Q23 "law" = true) (k23:PySem.W.keepIn K (.ref f23)=true)
  (a24:PySem.W.findIn K (.ref C_Ways) "__init__" = some (some (.ref f24))) (i24:PySem.W.isFn K (.ref f24)=true) (l24:K.lookup f24=some ⟨O24,D24,.func (PySem.W.fnOf "__init__" "Ways.__init__" (Ai Cs) (Af Cs) (A4 Cs) .none V24 E24 P24 N24 Q24 U24),S24⟩) (c24:PySem.W.codeIn K Q24 "Ways.__init__" = true) (k24:PySem.W.keepIn K (.ref f24)=true)
  (a25:PySem.W.findIn K (.ref C_Ways) "free_names" = some (some (.ref f25))) (i25:PySem.W.isFn K (.ref f25)=true) (l25:K.lookup f25=some ⟨O25,D25,.func (PySem.W.fnOf "free_names" "Ways.free_names" (Ai B1) (Af B1) (A4 B1) .none V25 E25 P25 N25 Q25 U25),S25⟩) (c25:PySem.W.codeIn K Q25 "Ways.free_names" = true) (k25:PySem.W.keepIn K (.ref f25)=true)
  (a26:PySem.W.findIn K (.ref C_Ways) "ways_on" = some (some (.ref f26))) (i26:PySem.W.isFn K (.ref f26)=true) (l26:K.lookup f26=some ⟨O26,D26,.func (PySem.W.fnOf "ways_on" "Ways.ways_on" (Ai Bd) (Af Bd) (A4 Bd) .none V26 E26 P26 N26 Q26 U26),S26⟩) (c26:PySem.W.codeIn K Q26 "Ways.ways_on" = true) (k26:PySem.W.keepIn K (.ref f26)=true)
  (lc:Q9 = .ref c_bst) (lh:PySem.W.codeHdIn K c_bst P_best=true) (lg:mainGlobals≠P_best)
  (z0:PySem.W.nsIn K mainGlobals "dict" = some none)
  (z1:PySem.W.nsIn K mainGlobals "enumerate" = some none)
  (z2:PySem.W.nsIn K mainGlobals "int" = some none)
  (z3:PySem.W.nsIn K mainGlobals "len" = some none)
  (z4:PySem.W.nsIn K mainGlobals "list" = some none)
  (z5:PySem.W.nsIn K mainGlobals "max" = some none)
  (z6:PySem.W.nsIn K mainGlobals "min" = some none)
  (z7:PySem.W.nsIn K mainGlobals "range" = some none)
  (z8:PySem.W.nsIn K mainGlobals "repr" = some none)
  (z9:PySem.W.nsIn K mainGlobals "reversed" = some none)
  (z10:PySem.W.nsIn K mainGlobals "sum" = some none)
  (z11:PySem.W.nsIn K mainGlobals "tuple" = some none)
  : ∃ fd:FuncData,(∃ c,PySem.W.codeHdIn K c P_best=true)/\(∀(s:Shared) (v:Value),BindsTo s fd ⟨[v],[]⟩ [("_law_script",v)])/\∀ base:Heap,K.In base->base.Ns mainGlobals mg->base.BuiltinsAt mg P_best->FnOk l.prog w K mg base CX0 18 fa fd ["_law_script"] (spLaw P_best K):=by
 have e:=hfa.symm.trans (PySem.W.mg_of X G a23)
 cases e
 have T:Hc mg:=⟨PySem.W.mg_none_of X G z0,PySem.W.mg_none_of X G z1,PySem.W.mg_none_of X G z2,PySem.W.mg_none_of X G z3,PySem.W.mg_none_of X G z4,PySem.W.mg_none_of X G z5,PySem.W.mg_none_of X G z6,PySem.W.mg_none_of X G z7,PySem.W.mg_none_of X G z8,PySem.W.mg_none_of X G z9,PySem.W.mg_none_of X G z10,PySem.W.mg_none_of X G z11⟩
 have F0:=Bh (st:=Bw) l0 c0 k0
 have b0:Binds K _ ["half"] []:=Fn F0 fun _ _ _ _ _ _ _=>rfl
 have F1:=Bh (st:=Ce) l1 c1 k1
 have b1:Binds K _ ["reach","one","other"] []:=Yh F1 fun _ _ _ _ _ _ _ _ _=>rfl
 have F2:=Bh (st:=Cr) l2 c2 k2
 have b2:Binds K _ ["reach"] []:=Fn F2 fun _ _ _ _ _ _ _=>rfl
 have F3:=Bh (st:=Fy) l3 c3 k3
 have b3:Binds K _ ["half"] []:=Fn F3 fun _ _ _ _ _ _ _=>rfl
 have F4:=Bh (st:=El) l4 c4 k4
 have b4:Binds K _ ["names"] []:=Fn F4 fun _ _ _ _ _ _ _=>rfl
 have F5:=Bh (st:=Ca) l5 c5 k5
 have b5:Binds K _ ["half","bits"] []:=Ej F5 fun _ _ _ _ _ _ _ _=>rfl
 have F6:=Bh (st:=C7) l6 c6 k6
 have b6:Binds K _ ["ways"] []:=Fn F6 fun _ _ _ _ _ _ _=>rfl
 have F7:=Bh (st:=Cq) l7 c7 k7
 have b7:Binds K _ ["half"] []:=Fn F7 fun _ _ _ _ _ _ _=>rfl
 have F8:=Bh (st:=Cn) l8 c8 k8
 have b8:Binds K _ ["half"] []:=Fn F8 fun _ _ _ _ _ _ _=>rfl
 have F9:=Bh (st:=Kb) l9 c9 k9
 have b9:Binds K _ ["half"] []:=Fn F9 fun _ _ _ _ _ _ _=>rfl
 have F10:=Bh (st:=Co) l10 c10 k10
 have b10:Binds K _ ["_law_script"] []:=Fn F10 fun _ _ _ _ _ _ _=>rfl
 have F11:=Bh (st:=Cv) l11 c11 k11
 have b11:Binds K _ ["_law_feed_here","_law_many"] []:=Ej F11 fun _ _ _ _ _ _ _ _=>rfl
 have F12:=Bh (st:=Cf) l12 c12 k12
 have b12:Binds K _ ["_law_feed_here","_law_many"] []:=Ej F12 fun _ _ _ _ _ _ _ _=>rfl
 have F13:=Bh (st:=Bg) l13 c13 k13
 have b13:Binds K _ ["_law_feed_here","_law_some"] []:=Ej F13 fun _ _ _ _ _ _ _ _=>rfl
 have F14:=Bh (st:=Cc) l14 c14 k14
 have b14:Binds K _ ["_law_feed_here","_law_line"] []:=Ej F14 fun _ _ _ _ _ _ _ _=>rfl
 have F15:=Bh (st:=Bq) l15 c15 k15
 have b15:Binds K _ ["_law_feed_here","_law_line"] []:=Ej F15 fun _ _ _ _ _ _ _ _=>rfl
 have F16:=Bh (st:=Cp) l16 c16 k16
 have b16:Binds K _ ["_law_feed_here","_law_most"] []:=Ej F16 fun _ _ _ _ _ _ _ _=>rfl
 have F17:=Bh (st:=Bu) l17 c17 k17
 have b17:Binds K _ ["_law_half_here"] []:=Fn F17 fun _ _ _ _ _ _ _=>rfl
 have F18:=Bh (st:=C8) l18 c18 k18
 have b18:Binds K _ ["_law_orders_here","_law_one","_law_other"] []:=Yh F18 fun _ _ _ _ _ _ _ _ _=>rfl
 have F19:=Bh (st:=B8) l19 c19 k19
 have b19:Binds K _ ["_law_names_here","_law_orders_here"] []:=Ej F19 fun _ _ _ _ _ _ _ _=>rfl
 have F20:=Bh (st:=Ds) l20 c20 k20
 have b20:Binds K _ ["_law_feed_here"] []:=Fn F20 fun _ _ _ _ _ _ _=>rfl
 have F21:=Bh (st:=C5) l21 c21 k21
 have b21:Binds K _ ["_law_half_here","_law_due"] []:=Ej F21 fun _ _ _ _ _ _ _ _=>rfl
 have F22:=Bh (st:=C6) l22 c22 k22
 have b22:Binds K _ ["_law_asked","_law_many"] []:=Ej F22 fun _ _ _ _ _ _ _ _=>rfl
 have F23:=Bh (st:=Kn) l23 c23 k23
 have F24:=Bh (st:=Cs) l24 c24 k24
 have b24:Binds K _ ["self","half"] []:=Ej F24 fun _ _ _ _ _ _ _ _=>rfl
 have F25:=Bh (st:=B1) l25 c25 k25
 have b25:Binds K _ ["self","left"] []:=Ej F25 fun _ _ _ _ _ _ _ _=>rfl
 have F26:=Bh (st:=Bd) l26 c26 k26
 have b26:Binds K _ ["self","left"] []:=Ej F26 fun _ _ _ _ _ _ _ _=>rfl
 have k_Ways:Ew K C_Ways:=⟨⟨pg_Ways,hd_Ways,po_Ways,sa_Ways⟩,n_Ways_names,n_Ways_bits,n_Ways_ahead,n_Ways_full,n_Ways_known⟩
 refine⟨PySem.W.fnOf "law" "law" (Ai Kn) (Af Kn) (A4 Kn) .none V23 E23 P23 N23 Q23 U23,⟨c_bst,lh⟩,fun s v=>.of_eq rfl,fun base KB _ hBi=>?_⟩
 have lb:am0 K mg base c_bst P_best:=⟨PySem.W.codeHd_of_K KB lh,hBi,lg⟩
 have c_behind_each:Fnd l.prog w K mg base 1 "behind_each" ["half"] (Cy K):=⟨_,_,K1 F0 T,PySem.W.mg_of X G a0,k0,b0⟩
 have c_are_untold:Fnd l.prog w K mg base 1 "are_untold" ["reach","one","other"] (Ex K):=⟨_,_,Ld F1 T,PySem.W.mg_of X G a1,k1,b1⟩
 have c_bits_of:Fnd l.prog w K mg base 1 "bits_of" ["names"] (Hi K):=⟨_,_,Rh F4 T,PySem.W.mg_of X G a4,k4,b4⟩
 have c__law_feed:Fnd l.prog w K mg base 1 "_law_feed" ["_law_script"] (Fj K):=⟨_,_,Nm F10 T,PySem.W.mg_of X G a10,k10,b10⟩
 have c__law_draw:Fnd l.prog w K mg base 1 "_law_draw" ["_law_feed_here","_law_many"] (Bl K):=⟨_,_,Mf F11 T,PySem.W.mg_of X G a11,k11,b11⟩
 have c__law_orders:Fnd l.prog w K mg base 1 "_law_orders" ["_law_half_here"] (Da K):=⟨_,_,K2 F17 T,PySem.W.mg_of X G a17,k17,b17⟩
 have c__law_parts:Fnd l.prog w K mg base 1 "_law_parts" ["_law_orders_here","_law_one","_law_other"] (Ev K):=⟨_,_,Kz F18 T,PySem.W.mg_of X G a18,k18,b18⟩
 have c__law_times:Fnd l.prog w K mg base 1 "_law_times" ["_law_asked","_law_many"] (Fa K):=⟨_,_,Kx F22 T,PySem.W.mg_of X G a22,k22,b22⟩
 have c_Ways_free_names:Mtd l.prog w K mg base 1 C_Ways "free_names" ["self","left"] (At C_Ways K):=⟨_,_,Gz F25 T k_Ways,⟨a25,i25,k25⟩,b25⟩
 have c_untold_of:Fnd l.prog w K mg base 2 "untold_of" ["reach"] (Fw K):=⟨_,_,Ms F2 T c_are_untold,PySem.W.mg_of X G a2,k2,b2⟩
 have c_bits_ahead:Fnd l.prog w K mg base 2 "bits_ahead" ["half","bits"] (Ez K):=⟨_,_,La F5 T c_behind_each,PySem.W.mg_of X G a5,k5,b5⟩
 have c_comings_of:Fnd l.prog w K mg base 2 "comings_of" ["ways"] (Fd C_Ways K):=⟨_,_,Lv F6 T k_Ways c_Ways_free_names,PySem.W.mg_of X G a6,k6,b6⟩
 have c__law_names:Fnd l.prog w K mg base 2 "_law_names" ["_law_feed_here","_law_many"] (Do K):=⟨_,_,L7 F12 T c__law_draw,PySem.W.mg_of X G a12,k12,b12⟩
 have c__law_shuffled:Fnd l.prog w K mg base 2 "_law_shuffled" ["_law_feed_here","_law_some"] (C0 K):=⟨_,_,Hz F13 T c__law_draw,PySem.W.mg_of X G a13,k13,b13⟩
 have c__law_pairs:Fnd l.prog w K mg base 2 "_law_pairs" ["_law_feed_here","_law_line"] (Dp K):=⟨_,_,L3 F14 T c__law_draw,PySem.W.mg_of X G a14,k14,b14⟩
 have c__law_questions:Fnd l.prog w K mg base 2 "_law_questions" ["_law_names_here","_law_orders_here"] (Cl K):=⟨_,_,Ho F19 T c__law_parts,PySem.W.mg_of X G a19,k19,b19⟩
 have c_untold:Fnd l.prog w K mg base 3 "untold" ["half"] (Jr K):=⟨_,_,Sg F3 T c_behind_each c_untold_of,PySem.W.mg_of X G a3,k3,b3⟩
 have c__law_sayings:Fnd l.prog w K mg base 3 "_law_sayings" ["_law_feed_here","_law_line"] (Dz K):=⟨_,_,J6 F15 T c__law_draw c__law_pairs,PySem.W.mg_of X G a15,k15,b15⟩
 have c__law_two:Fnd l.prog w K mg base 3 "_law_two" ["_law_feed_here"] (Gk K):=⟨_,_,On F20 T c__law_draw c__law_names c__law_shuffled c__law_pairs c__law_orders,PySem.W.mg_of X G a20,k20,b20⟩
 have c_Ways_init:Mkd l.prog w K mg base 3 C_Ways "Ways" ["self","half"] (Fl C_Ways K):=⟨_,_,Na F24 T k_Ways c_bits_of c_bits_ahead,⟨mk_Ways,a24,i24,kc_Ways⟩,PySem.W.mg_of X G aC_Ways,b24⟩
 have c__law_half:Fnd l.prog w K mg base 4 "_law_half" ["_law_feed_here","_law_most"] (Fv K):=⟨_,_,My F16 T c__law_draw c__law_names c__law_shuffled c__law_sayings,PySem.W.mg_of X G a16,k16,b16⟩
 have c_Ways_ways_on:Mtd l.prog w K mg base 13 C_Ways "ways_on" ["self","left"] (Dx C_Ways K):=⟨_,_,Ja F26 T k_Ways c_Ways_free_names ⟨a26,i26,k26⟩ b26,⟨a26,i26,k26⟩,b26⟩
 have c_shares_of:Fnd l.prog w K mg base 14 "shares_of" ["half"] (Fk K):=⟨_,_,Nk F7 T k_Ways c_comings_of c_Ways_init c_Ways_free_names c_Ways_ways_on,PySem.W.mg_of X G a7,k7,b7⟩
 have c_questions:Fnd l.prog w K mg base 15 "questions" ["half"] (Fu K):=⟨_,_,Nf F8 T c_untold c_shares_of,PySem.W.mg_of X G a8,k8,b8⟩
 have c_best:Fnd l.prog w K mg base 16 "best" ["half"] (Oy P_best K):=⟨_,_,Zl F9 T lb lc c_questions,PySem.W.mg_of X G a9,k9,b9⟩
 have c__law_right:Fnd l.prog w K mg base 17 "_law_right" ["_law_half_here","_law_due"] (Ey P_best K):=⟨_,_,L5 F21 T c_best,PySem.W.mg_of X G a21,k21,b21⟩
 exact ae4 F23 T c__law_feed c__law_half c__law_orders c__law_questions c__law_two c__law_right c__law_times
theorem walk {l:PySem.W.OpenLaw}{q:Program}{loose:List Str}{XP:(Str->Option Value)->Heap->Prop}{YP:World->Heap->Prop}{d:DefRec}{K:Params->PySem.W.Frag}{P_best:Addr}(hn:l.most=some 63)(hdf:d.params.defaults=[])
  (hY:∀(w:World) (h:Heap),YP w h->(K w.params).In h) (hYT:∀(w:World) (h:Heap),YP w h->h.get? P_best=some (PySem.W.tabObj #[])) (hKP:∀(w:World),(K w.params).lookup P_best=none)
  (F:∀(w:World) (mg:Str->Option Value) (fa:Addr) (h:Heap),(K w.params).In h->h.Ns mainGlobals mg->mg d.name=some (.ref fa) ->
   ∃ fd:FuncData,(∃ c,PySem.W.codeHdIn (K w.params) c P_best=true)/\(∀(s:Shared) (u:Value),BindsTo s fd ⟨[u],[]⟩ [("_law_script",u)])/\∀ base:Heap,(K w.params).In base->base.Ns mainGlobals mg->base.BuiltinsAt mg P_best->FnOk l.prog w (K w.params) mg base CX0 18 fa fd ["_law_script"] (spLaw P_best (K w.params))) :
  PySem.W.WalkO q loose XP YP l.row.toRowW d [] (fun f vs=>PySem.call f vs):=
 L2.walk_ofT (n:=63) (k:=18) (x:="_law_script") (CX:=fun _=>CX0) (sp:=fun w=>spLaw P_best (K w.params)) hn (by decide) hdf ⟨rfl,by decide,by decide,rfl⟩ hY hYT hKP F (fun _ _ a ns hl hO hS=>⟨a,ns,rfl,hS,hl,.inl hO.1,fun _=>rfl⟩) fun _ _ _ _ _ z=>z
end K61
theorem PySem.W.Fast.tw3464014262954564803 : True := trivial
theorem PySem.W.Fast.tw17710622535704435864 : True := trivial
theorem PySem.W.Fast.tw4714673460456496702 : True := trivial
theorem PySem.W.Fast.tw7076211579261937618 : True := trivial
theorem PySem.W.Fast.tw15100744875271677076 : True := trivial
theorem PySem.W.Fast.tw17160023787630646592 : True := trivial
theorem PySem.W.Fast.tw155209424009841826 : True := trivial
theorem PySem.W.Fast.tw16065446204514299604 : True := trivial
theorem PySem.W.Fast.tw7674339222483252698 : True := trivial
theorem PySem.W.Fast.tw7313710172631757762 : True := trivial
theorem PySem.W.Fast.tw14368127349708277264 : True := trivial
theorem PySem.W.Fast.tw5290192947194964869 : True := trivial
theorem PySem.W.Fast.tw14968002359449569714 : True := trivial
theorem PySem.W.Fast.tw3456001694609313918 : True := trivial
theorem PySem.W.Fast.tw17832131544116297716 : True := trivial
theorem PySem.W.Fast.tw18244942293410094070 : True := trivial
theorem PySem.W.Fast.tw16311031458539077962 : True := trivial
theorem PySem.W.Fast.tw6708657206065086981 : True := trivial
theorem PySem.W.Fast.tw759375767332120964 : True := trivial
theorem PySem.W.Fast.tw14501452865461491660 : True := trivial
theorem PySem.W.Fast.tw9710888361748978164 : True := trivial
theorem PySem.W.Fast.tw12562052824313374771 : True := trivial
theorem PySem.W.Fast.tw4615488796018736475 : True := trivial
theorem PySem.W.Fast.tw4032144825339697423 : True := trivial
theorem PySem.W.Fast.tw13258863325141597844 : True := trivial
theorem PySem.W.Fast.tw70533196167463704 : True := trivial
theorem PySem.W.Fast.tw4757376102705781862 : True := trivial
theorem PySem.W.Fast.tw16155707016000535333 : True := trivial
theorem PySem.W.Fast.tw11414077287948718693 : True := trivial
theorem PySem.W.Fast.tw101870261639656562 : True := trivial
theorem PySem.W.Fast.tw299983758174997226 : True := trivial
theorem PySem.W.Fast.tw3089117039734725926 : True := trivial
theorem PySem.W.Fast.tw15073838553059423320 : True := trivial
theorem PySem.W.Fast.tw9226713468677496608 : True := trivial
theorem PySem.W.Fast.tw275064362006321069 : True := trivial
theorem PySem.W.Fast.tw7295543759876695682 : True := trivial
theorem PySem.W.Fast.tw5456790245055038833 : True := trivial
theorem PySem.W.Fast.tw3110070727268234630 : True := trivial
theorem PySem.W.Fast.tw10015665781930647851 : True := trivial
theorem PySem.W.Fast.tw6485644888006853424 : True := trivial
theorem PySem.W.Fast.tw1266466183833617911 : True := trivial
theorem PySem.W.Fast.tw15407456371629033880 : True := trivial
theorem PySem.W.Fast.tw7889775788309131439 : True := trivial
theorem PySem.W.Fast.tw17106453667603904516 : True := trivial
theorem PySem.W.Fast.tw18109725521882994554 : True := trivial
theorem PySem.W.Fast.tw10940843659526056668 : True := trivial
theorem PySem.W.Fast.tw2726627949064985327 : True := trivial
theorem PySem.W.Fast.tw3643666808548002695 : True := trivial
theorem PySem.W.Fast.tw5628744824809674411 : True := trivial
theorem PySem.W.Fast.tw15014242258084909434 : True := trivial
theorem PySem.W.Fast.tw564449780867523487 : True := trivial
theorem PySem.W.Fast.tw11091966807719227656 : True := trivial
theorem PySem.W.Fast.tw10584935911787893415 : True := trivial
theorem PySem.W.Fast.tw9949961518263035007 : True := trivial
theorem PySem.W.Fast.tw9741755738702062816 : True := trivial
theorem PySem.W.Fast.tw5024210481510851087 : True := trivial
theorem PySem.W.Fast.tw10535339393130638420 : True := trivial
open PySem PySem.W PyProof.Rows
set_option maxRecDepth 100000 in
set_option maxHeartbeats 0 in
theorem PySem.Challenge.cw_halforder_k61_best_questions_holds : PySem.Challenge.rw_halforder_k61_best_questions.Holds := by
 w_on;o_law;k_head;(case hw=>w_witness2)
 k_fill
 refine K61.walk (l:=PySem.Challenge.rw_halforder_k61_best_questions) rfl rfl (fun w h Y=>PySem.W.km_in_of Y) (fun w h Y=>PySem.W.km_tabs_of Y _ (List.mem_cons_self ..)) (fun w=>by kernel_rfl) ?F
 case F=>
  intro w mg fa h KX G hmg
  refine' K61.all_mk KX G hmg ?q_aC_Ways ?q_pg_Ways ?q_hd_Ways ?q_po_Ways ?q_sa_Ways ?q_mk_Ways ?q_kc_Ways ?q_n_Ways_names ?q_n_Ways_bits ?q_n_Ways_ahead ?q_n_Ways_full ?q_n_Ways_known ?q_a0 ?q_l0 ?q_c0 ?q_k0 ?q_a1 ?q_l1 ?q_c1 ?q_k1 ?q_a2 ?q_l2 ?q_c2 ?q_k2 ?q_a3 ?q_l3 ?q_c3 ?q_k3 ?q_a4 ?q_l4 ?q_c4 ?q_k4 ?q_a5 ?q_l5 ?q_c5 ?q_k5 ?q_a6 ?q_l6 ?q_c6 ?q_k6 ?q_a7 ?q_l7 ?q_c7 ?q_k7 ?q_a8 ?q_l8 ?q_c8 ?q_k8 ?q_a9 ?q_l9 ?q_c9 ?q_k9 ?q_a10 ?q_l10 ?q_c10 ?q_k10 ?q_a11 ?q_l11 ?q_c11 ?q_k11 ?q_a12 ?q_l12 ?q_c12 ?q_k12 ?q_a13 ?q_l13 ?q_c13 ?q_k13 ?q_a14 ?q_l14 ?q_c14 ?q_k14 ?q_a15 ?q_l15 ?q_c15 ?q_k15 ?q_a16 ?q_l16 ?q_c16 ?q_k16 ?q_a17 ?q_l17 ?q_c17 ?q_k17 ?q_a18 ?q_l18 ?q_c18 ?q_k18 ?q_a19 ?q_l19 ?q_c19 ?q_k19 ?q_a20 ?q_l20 ?q_c20 ?q_k20 ?q_a21 ?q_l21 ?q_c21 ?q_k21 ?q_a22 ?q_l22 ?q_c22 ?q_k22 ?q_a23 ?q_l23 ?q_c23 ?q_k23 ?q_a24 ?q_i24 ?q_l24 ?q_c24 ?q_k24 ?q_a25 ?q_i25 ?q_l25 ?q_c25 ?q_k25 ?q_a26 ?q_i26 ?q_l26 ?q_c26 ?q_k26 ?q_lc ?q_lh ?q_lg ?q_z0 ?q_z1 ?q_z2 ?q_z3 ?q_z4 ?q_z5 ?q_z6 ?q_z7 ?q_z8 ?q_z9 ?q_z10 ?q_z11
  (case q_aC_Ways=>k_is)
  (case q_pg_Ways=>k_is)
  (case q_hd_Ways=>k_is)
  (case q_po_Ways=>k_is)
  (case q_sa_Ways=>k_is)
  (case q_mk_Ways=>k_is)
  (case q_kc_Ways=>k_is)
  (case q_n_Ways_names=>k_is)
  (case q_n_Ways_bits=>k_is)
  (case q_n_Ways_ahead=>k_is)
  (case q_n_Ways_full=>k_is)
  (case q_n_Ways_known=>k_is)
  (case q_a0=>k_is)
  (case q_l0=>k_is)
  (case q_c0=>k_is)
  (case q_k0=>k_is)
  (case q_a1=>k_is)
  (case q_l1=>k_is)
  (case q_c1=>k_is)
  (case q_k1=>k_is)
  (case q_a2=>k_is)
  (case q_l2=>k_is)
  (case q_c2=>k_is)
  (case q_k2=>k_is)
  (case q_a3=>k_is)
  (case q_l3=>k_is)
  (case q_c3=>k_is)
  (case q_k3=>k_is)
  (case q_a4=>k_is)
  (case q_l4=>k_is)
  (case q_c4=>k_is)
  (case q_k4=>k_is)
  (case q_a5=>k_is)
  (case q_l5=>k_is)
  (case q_c5=>k_is)
  (case q_k5=>k_is)
  (case q_a6=>k_is)
  (case q_l6=>k_is)
  (case q_c6=>k_is)
  (case q_k6=>k_is)
  (case q_a7=>k_is)
  (case q_l7=>k_is)
  (case q_c7=>k_is)
  (case q_k7=>k_is)
  (case q_a8=>k_is)
  (case q_l8=>k_is)
  (case q_c8=>k_is)
  (case q_k8=>k_is)
  (case q_a9=>k_is)
  (case q_l9=>k_is)
  (case q_c9=>k_is)
  (case q_k9=>k_is)
  (case q_a10=>k_is)
  (case q_l10=>k_is)
  (case q_c10=>k_is)
  (case q_k10=>k_is)
  (case q_a11=>k_is)
  (case q_l11=>k_is)
  (case q_c11=>k_is)
  (case q_k11=>k_is)
  (case q_a12=>k_is)
  (case q_l12=>k_is)
  (case q_c12=>k_is)
  (case q_k12=>k_is)
  (case q_a13=>k_is)
  (case q_l13=>k_is)
  (case q_c13=>k_is)
  (case q_k13=>k_is)
  (case q_a14=>k_is)
  (case q_l14=>k_is)
  (case q_c14=>k_is)
  (case q_k14=>k_is)
  (case q_a15=>k_is)
  (case q_l15=>k_is)
  (case q_c15=>k_is)
  (case q_k15=>k_is)
  (case q_a16=>k_is)
  (case q_l16=>k_is)
  (case q_c16=>k_is)
  (case q_k16=>k_is)
  (case q_a17=>k_is)
  (case q_l17=>k_is)
  (case q_c17=>k_is)
  (case q_k17=>k_is)
  (case q_a18=>k_is)
  (case q_l18=>k_is)
  (case q_c18=>k_is)
  (case q_k18=>k_is)
  (case q_a19=>k_is)
  (case q_l19=>k_is)
  (case q_c19=>k_is)
  (case q_k19=>k_is)
  (case q_a20=>k_is)
  (case q_l20=>k_is)
  (case q_c20=>k_is)
  (case q_k20=>k_is)
  (case q_a21=>k_is)
  (case q_l21=>k_is)
  (case q_c21=>k_is)
  (case q_k21=>k_is)
  (case q_a22=>k_is)
  (case q_l22=>k_is)
  (case q_c22=>k_is)
  (case q_k22=>k_is)
  (case q_a23=>k_is)
  (case q_l23=>k_is)
  (case q_c23=>k_is)
  (case q_k23=>k_is)
  (case q_a24=>k_is)
  (case q_i24=>k_is)
  (case q_l24=>k_is)
  (case q_c24=>k_is)
  (case q_k24=>k_is)
  (case q_a25=>k_is)
  (case q_i25=>k_is)
  (case q_l25=>k_is)
  (case q_c25=>k_is)
  (case q_k25=>k_is)
  (case q_a26=>k_is)
  (case q_i26=>k_is)
  (case q_l26=>k_is)
  (case q_c26=>k_is)
  (case q_k26=>k_is)
  (case q_lc=>rfl)
  (case q_lh=>kernel_rfl)
  (case q_lg=>decide)
  (case q_z0=>k_is)
  (case q_z1=>k_is)
  (case q_z2=>k_is)
  (case q_z3=>k_is)
  (case q_z4=>k_is)
  (case q_z5=>k_is)
  (case q_z6=>k_is)
  (case q_z7=>k_is)
  (case q_z8=>k_is)
  (case q_z9=>k_is)
  (case q_z10=>k_is)
  (case q_z11=>k_is)
